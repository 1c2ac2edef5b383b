/-
  Own text.
-/
import Derived.Test.YtjamcbjghffboaaGreatDoorMLimbR
import Derived.Test.YtjamcbjghffboaaGreatDoorBits
import Derived.Test.YtjamcbjghffboaaGreatDoorMReg
import Derived.Deep.LoopGhost
set_option linter.unusedVariables false
set_option maxRecDepth 100000
namespace Go.Proofs.YtjamcbjghffboaaGreatDoor
namespace Fp
open Go Go.RowKit Reg Base Limb
def PP:Int:=0x1a0111ea397fe69a4b1ba7b6434bacd764774b84f38512bf6730d2a0f6b0f6241eabfffeb153ffffb9feffffffffaaab
def pL:List Int:=[13402431016077863595,2210141511517208575,7435674573564081700,7239337960414712511,5412103778470702295,1873798617647539866]
theorem pL_len:pL.length=6:=rfl
theorem num_pL:num pL=PP:=by decide +kernel
theorem pL_words:Words pL:=words_of _ (by decide)
theorem PP_pos:0<PP:=by decide +kernel
theorem PP_lt:PP<wp 6/\wp 6<=10*PP/\2*PP<wp 6:=by decide +kernel
def fe (v:Int):List Int:=wd 6 (v%PP)
theorem fe_len (v:Int):(fe v).length=6:=wd_len _ _
theorem fe_words (v:Int):Words (fe v):=wd_words _ _
theorem fe_mod (v:Int):0<=v%PP/\v%PP<PP:=⟨Int.emod_nonneg _ (Int.ne_of_gt PP_pos),Int.emod_lt_of_pos _ PP_pos⟩
theorem num_fe (v:Int):num (fe v)=v%PP:=by
 have h:=fe_mod v
 exact num_wd_of h.1 (Int.lt_trans h.2 PP_lt.1)
theorem fe_congr {v u:Int}(h:v%PP=u%PP):fe v=fe u:=by rw[fe,fe,h]
theorem fe_inj {v u:Int}(h:fe v=fe u):v%PP=u%PP:=by rw[<-num_fe,<-num_fe,h]
theorem fe_below {l:List Int}(hw:Words l)(hl:l.length=6)(h:num l<PP):l=fe (num l):=by
 rw[fe,Int.emod_eq_of_lt (num_bounds hw).1 h]
 exact (wd_num hw hl).symm
theorem num6 {l:List Int}(hw:Words l)(hl:l.length=6):0<=num l/\num l<wp 6:=by have:=num_bounds hw;rwa [hl] at this
end Fp
namespace Fp
open Go Go.RowKit Reg Base Limb Bits
def Z6:List Int:=[0,0,0,0,0,0]
set_option maxHeartbeats 1000000 in
theorem refP_c (w:World):Calls Tryz.prog 134 #[] w fun e w'=>e=.returned (.agg (vals .u64 pL))/\Below w.heap.size w w':=by
 have hR:Has (w.alloc (.cells (vals .u64 Z6) 24)) w.heap.size 24 (vals .u64 Z6):=Has.new _ _ _
 have hb:Below w.heap.size w (w.alloc (.cells (vals .u64 Z6) 24)):=(Below.refl _ _).alloc (Nat.le_refl _) _
 go_enter Tryz.func134,Tryz.ntmps134
 go_wp2_with (first
  |(refine wpList_buildFlatArrTo rfl 24 22 6 _ rfl .u64 pL (some 1) rfl Tryz.underlying24 (by kernel_rfl) (by kernel_rfl) rfl ?_)
  |(refine wpList_store_rowTo rfl 24 (.tmp 0) (.tmp 1) rfl rfl w.heap.size (vals .u64 pL) rfl rfl _ _ hR.eq (by kernel_rfl) (by rfl) vals_one ?_))
 refine bodyPost_ret (v:=.agg (vals .u64 pL)) (results_cell_row rfl _ _ w.heap.size _ _ _ _ rfl (hR.row _).eq Tryz.underlying24 rfl (by kernel_rfl)) rfl ⟨rfl,below_row hb (Nat.le_refl _) _⟩
set_option maxHeartbeats 2000000 in
theorem refBelow_c (a:List Int)(hl:a.length=6)(hw:Words a)(w:World):Calls Tryz.prog 132 #[.agg (vals .u64 a)] w fun e w'=>e=.returned (.bool (decide (num a<PP)))/\Below w.heap.size w w':=by
  have AL:Keep _:=⟨hl⟩
  have AW:Keep _:=⟨hw⟩
  clear hl hw
  have hA0:Has (w.alloc (.cells (vals .u64 a) 24)) w.heap.size 24 (vals .u64 a):=Has.new _ _ _
  have hb0:Below w.heap.size w (w.alloc (.cells (vals .u64 a) 24)):=(Below.refl _ _).alloc (Nat.le_refl _) _
  go_enter Tryz.func132,Tryz.ntmps132
  go_wp2_with (first
    | (go_at_call 134
       refine (refP_c _).mono ?_
       rintro e w1 ⟨rfl,hb1⟩
       have hA1:=hA0.keep hb1
       have hbb1:=hb0.trans (hb1.mono hb0.size)
       clear hA0 hb0 hb1)
    | (refine store_abs2 (by rfl) 24 (.tmp 3) (.tmp 5) (by rfl) (by rfl) w1.heap.size (vals .u64 pL) (by rfl) (by rfl) 24 (vals .u64 Z6) (Has.new' _ rfl _ _) (by kernel_rfl) (by rfl) vals_one ?_
       intro w2 hP2 hkeep hbg
       have hbe:=((Below.refl w1.heap.size w1).alloc (Nat.le_refl _) (.cells (vals .u64 Z6) 24)).trans hbg
       have hA2:=hA1.keep hbe
       have hbb2:=hbb1.trans (hbe.mono hbb1.size)
       clear hkeep hbg hbe hA1 hbb1))
  go_loopw [4] (fun vi wr=>∃k:Nat,k<=6/\vi=.int .i64 ((k:Int)-1)/\Keep (∀j,k<=j->nth a j=nth pL j)/\Has wr w.heap.size 24 (vals .u64 a)/\Has wr w1.heap.size 24 (vals .u64 pL)/\Below w.heap.size w wr) (fun vi _=>(intOf vi+1).toNat)
  case atStart=>exact⟨6,Nat.le_refl _,rfl,⟨fun j hj=>by rw[nth_ge (by rw[AL.out];exact hj),nth_ge (show pL.length<=j from hj)]⟩,hA2,hP2,hbb2⟩
  case round=>
    clear hA2 hP2 hbb2
    obtain⟨k,hk,rfl,hE,hA,hP,hb⟩:=hrel
    rcases k with _|i
    · have he:decide (num a<PP)=false:=decide_eq_false (by have:=num_high hE.out;rw[low_zero,low_zero,num_pL] at this;omega)
      have HE:Keep _:=⟨he⟩
      clear he
      go_wp2
      go_ret
      exact⟨ret_eq (by rw[HE.out];rfl),hb⟩
    · have e1:((i+1:Nat):Int)-1=(i:Int):=by omega
      rw[e1]
      clear e1
      obtain⟨x,hx⟩:∃x,nth a i=x:=⟨_,rfl⟩
      obtain⟨y,hy⟩:∃y,nth pL i=y:=⟨_,rfl⟩
      have q0:∀w',Below wr.heap.size wr w'->w'.cell? ⟨w.heap.size,i,none⟩=some (.int .u64 x):=fun w' hb'=>by rw[<-hx];exact (hA.keep hb').val (by rw[AL.out];omega)
      have q1:∀w',Below wr.heap.size wr w'->w'.cell? ⟨w1.heap.size,i,none⟩=some (.int .u64 y):=fun w' hb'=>by rw[<-hy];exact (hP.keep hb').val (by show i<6;omega)
      have Q0:Keep _:=⟨q0⟩
      have Q1:Keep _:=⟨q1⟩
      clear q0 q1
      by_cases hxy:x=y
      · have hE':Keep (∀j,i<=j->nth a j=nth pL j):=⟨fun j hj=>by
          rcases Nat.lt_or_ge i j with h|h
          · exact hE.out j h
          · obtain rfl:i=j:=by omega
            rw[hx,hy,hxy]⟩
        have hbo:(x != y)=false:=by rw[bne_eq_false_iff_eq];exact hxy
        clear hxy hx hy
        go_wp2
        refine wp_fam_all (by kernel_rfl) (by kernel_rfl) (fun I hI' fw hf hback=>?_)
        have c0:∀j,(fw j).cell? ⟨w.heap.size,i,none⟩=some (.int .u64 x):=fun j=>Q0.out _ (hf j)
        have c1:∀j,(fw j).cell? ⟨w1.heap.size,i,none⟩=some (.int .u64 y):=fun j=>Q1.out _ (hf j)
        repeat (go_big_quiet_step (fail))
        refine wpQuiet_nil ?_
        intro w6 hb6
        clear c0 c1 hf hback
        go_wp2
        have hrel:∃k:Nat,k<=6/\Value.int .i64 ((i:Int)-1)=.int .i64 ((k:Int)-1)/\Keep (∀j,k<=j->nth a j=nth pL j)/\Has w6 w.heap.size 24 (vals .u64 a)/\Has w6 w1.heap.size 24 (vals .u64 pL)/\Below w.heap.size w w6:=⟨i,by omega,rfl,hE',hA.keep hb6,hP.keep hb6,hb.trans (hb6.mono hb.size)⟩
        first
          | exact⟨hrel,by simp[intOf]⟩
          | (go_roundw
             case rel=>exact hrel
             case measure=>simp[intOf])
      · have hbo:(x != y)=true:=by rw[bne_iff_ne];exact hxy
        have he:decide (num a<PP)=decide (x<y):=by
          rw[decide_eq_decide,<-num_pL]
          have h1:=num_high hE.out
          rcases Int.lt_trichotomy x y with h|h|h
          · have h2:=low_less AW.out pL_words (k:=i) (by rw[hx,hy];exact h)
            constructor<;>intro<;>omega
          · exact absurd h hxy
          · have h2:=low_less pL_words AW.out (k:=i) (by rw[hx,hy];exact h)
            constructor<;>intro<;>omega
        have HE:Keep _:=⟨he⟩
        clear he hxy hx hy
        go_wp2
        refine wp_fam_all (by kernel_rfl) (by kernel_rfl) (fun I hI' fw hf hback=>?_)
        have c0:∀j,(fw j).cell? ⟨w.heap.size,i,none⟩=some (.int .u64 x):=fun j=>Q0.out _ (hf j)
        have c1:∀j,(fw j).cell? ⟨w1.heap.size,i,none⟩=some (.int .u64 y):=fun j=>Q1.out _ (hf j)
        repeat (go_big_quiet_step (fail))
        refine wpQuiet_nil ?_
        intro w6 hb6
        clear c0 c1 hf hback
        go_wp2
        refine wp_fam_all (by kernel_rfl) (by kernel_rfl) (fun I hI' fw hf hback=>?_)
        have c0:∀j,(fw j).cell? ⟨w.heap.size,i,none⟩=some (.int .u64 x):=fun j=>Q0.out _ (hb6.trans ((hf j).mono hb6.size))
        have c1:∀j,(fw j).cell? ⟨w1.heap.size,i,none⟩=some (.int .u64 y):=fun j=>Q1.out _ (hb6.trans ((hf j).mono hb6.size))
        repeat (go_big_quiet_step (fail))
        refine wpQuiet_nil ?_
        intro w7 hb7
        clear c0 c1 hf hback
        go_wp2
        go_ret
        exact⟨ret_eq (by rw[HE.out];rfl),hb.trans ((hb6.trans (hb7.mono hb6.size)).mono hb.size)⟩
set_option maxHeartbeats 2000000 in
theorem refMinus_c (a b:List Int)(hl:a.length=6)(hw:Words a)(hl':b.length=6)(hw':Words b)(w:World):Calls Tryz.prog 133 #[.agg (vals .u64 a),.agg (vals .u64 b)] w fun e w'=>e=.returned (.agg (vals .u64 (wd 6 (num a-num b))))/\Below w.heap.size w w':=by
  have AL:Keep _:=⟨hl⟩
  have AW:Keep _:=⟨hw⟩
  have BL:Keep _:=⟨hl'⟩
  have BW:Keep _:=⟨hw'⟩
  clear hl hw hl' hw'
  have hA0:Has ((((w.alloc (.cells (vals .u64 a) 24)).alloc (.cells (vals .u64 b) 24)).alloc (.cells (vals .u64 Z6) 24)).alloc (.cells (vals .u64 Z6) 24)) w.heap.size 24 (vals .u64 a):=(((Has.new _ _ _).alloc _).alloc _).alloc _
  have hB0:Has ((((w.alloc (.cells (vals .u64 a) 24)).alloc (.cells (vals .u64 b) 24)).alloc (.cells (vals .u64 Z6) 24)).alloc (.cells (vals .u64 Z6) 24)) (w.heap.size+1) 24 (vals .u64 b):=((Has.new' _ (by simp) _ _).alloc _).alloc _
  have hR0:Has ((((w.alloc (.cells (vals .u64 a) 24)).alloc (.cells (vals .u64 b) 24)).alloc (.cells (vals .u64 Z6) 24)).alloc (.cells (vals .u64 Z6) 24)) (w.heap.size+1+1) 24 (vals .u64 Z6):=(Has.new' _ (by simp) _ _).alloc _
  have hO0:Has ((((w.alloc (.cells (vals .u64 a) 24)).alloc (.cells (vals .u64 b) 24)).alloc (.cells (vals .u64 Z6) 24)).alloc (.cells (vals .u64 Z6) 24)) (w.heap.size+1+1+1) 24 (vals .u64 (padTo 6 [])):=Has.new' _ (by simp) _ _
  have hb0:Below w.heap.size w ((((w.alloc (.cells (vals .u64 a) 24)).alloc (.cells (vals .u64 b) 24)).alloc (.cells (vals .u64 Z6) 24)).alloc (.cells (vals .u64 Z6) 24)):=((((Below.refl _ _).alloc (Nat.le_refl _) _).alloc (by simp) _).alloc (by simp<;>omega) _).alloc (by simp<;>omega) _
  go_enter Tryz.func133,Tryz.ntmps133
  go_wp2
  go_loopw [6,7] (fun vb vi wr=>∃(k:Nat) (o:List Int) (bw:Int),k<=6/\vi=.int .i64 k/\vb=.int .u64 bw/\0<=bw/\bw<=1/\Keep (Words o/\o.length=k/\num o-wp k*bw=low a k-low b k)/\Has wr w.heap.size 24 (vals .u64 a)/\Has wr (w.heap.size+1) 24 (vals .u64 b)/\Has wr (w.heap.size+1+1) 24 (vals .u64 Z6)/\Has wr (w.heap.size+1+1+1) 24 (vals .u64 (padTo 6 o))/\Below w.heap.size w wr) (fun _ vi _=>6-(intOf vi).toNat)
  case atStart=>exact⟨0,[],0,by omega,rfl,rfl,by omega,by omega,⟨words_nil,rfl,by simp[num_nil,low_zero]⟩,hA0,hB0,hR0,hO0,hb0⟩
  case round=>
    clear hA0 hB0 hR0 hO0 hb0
    obtain⟨k,o,bw,hk,rfl,rfl,hbw0,hbw1,hI,hA,hB,hR,hO,hb⟩:=hrel
    by_cases hlt:k<6
    · obtain⟨x,hx⟩:∃x,nth a k=x:=⟨_,rfl⟩
      obtain⟨y,hy⟩:∃y,nth b k=y:=⟨_,rfl⟩
      have bx:0<=x/\x<=18446744073709551615:=hx▸AW.out k
      have by':0<=y/\y<=18446744073709551615:=hy▸BW.out k
      have hsub:=subc_run x y bw bx.1 by'.1 by'.2 hbw0 hbw1
      obtain⟨d,hd⟩:∃d,(x-y-bw)%18446744073709551616=d:=⟨_,rfl⟩
      obtain⟨nb,hnb⟩:∃nb,(if x<y+bw then (1:Int) else 0)=nb:=⟨_,rfl⟩
      rw[hd,hnb] at hsub
      have hst:d-18446744073709551616*nb=x-y-bw/\0<=d/\d<=18446744073709551615/\0<=nb/\nb<=1:=by
        rw[<-hd,<-hnb]
        by_cases h:x<y+bw
        · rw[if_pos h];omega
        · rw[if_neg h];omega
      have HS:Keep (Words (o++[d])/\(o++[d]).length=k+1/\num (o++[d])-wp (k+1)*nb=low a (k+1)-low b (k+1)):=⟨words_append hI.out.1 (words_one hst.2.1 hst.2.2.1),by rw[List.length_append,hI.out.2.1];rfl,sub_step hI.out.2.1 hI.out.2.2 (by rw[hx,hy];exact hst.1)⟩
      have Q0:Keep (∀w',Below wr.heap.size wr w'->w'.cell? ⟨w.heap.size,k,none⟩=some (.int .u64 x)):=⟨fun w' hb'=>by rw[<-hx];exact (hA.keep hb').val (by rw[AL.out];omega)⟩
      have Q1:Keep (∀w',Below wr.heap.size wr w'->w'.cell? ⟨w.heap.size+1,k,none⟩=some (.int .u64 y)):=⟨fun w' hb'=>by rw[<-hy];exact (hB.keep hb').val (by rw[BL.out];omega)⟩
      have hnb0:0<=nb/\nb<=1:=hst.2.2.2
      clear hd hnb hx hy hst bx by'
      go_wp2
      refine wp_fam_all (by kernel_rfl) (by kernel_rfl) (fun I hI' fw hf hback=>?_)
      have c0:∀j,(fw j).cell? ⟨w.heap.size,k,none⟩=some (.int .u64 x):=fun j=>Q0.out _ (hf j)
      have c1:∀j,(fw j).cell? ⟨w.heap.size+1,k,none⟩=some (.int .u64 y):=fun j=>Q1.out _ (hf j)
      repeat (go_big_quiet_step (fail))
      refine wpQuiet_nil ?_
      intro w6 hb6
      clear c0 c1 hf hback hsub
      have hA6:=hA.keep hb6
      have hB6:=hB.keep hb6
      have hR6:=hR.keep hb6
      have hO6:=hO.keep hb6
      have hbb6:=hb.trans (hb6.mono hb.size)
      clear hA hB hR hO hb hb6
      have co:=hO6.val (i:=k) (by rw[padTo_len (by rw[hI.out.2.1];omega)];exact hlt)
      have zo:=hO6.frozen k
      have hO7:=hO6.set_ k (.int .u64 d)
      rw[vals_set,padTo_set' hI.out.2.1 hlt] at hO7
      have hA7:=hA6.far (p:=⟨w.heap.size+1+1+1,k,none⟩) (by show w.heap.size≠w.heap.size+1+1+1;omega) (.int .u64 d)
      have hB7:=hB6.far (p:=⟨w.heap.size+1+1+1,k,none⟩) (by show w.heap.size+1≠w.heap.size+1+1+1;omega) (.int .u64 d)
      have hR7:=hR6.far (p:=⟨w.heap.size+1+1+1,k,none⟩) (by show w.heap.size+1+1≠w.heap.size+1+1+1;omega) (.int .u64 d)
      have hb7:=hbb6.setCell (p:=⟨w.heap.size+1+1+1,k,none⟩) (by show w.heap.size<=w.heap.size+1+1+1;omega) (.int .u64 d)
      clear hO6 hA6 hB6 hR6 hbb6
      go_wp2
      first
        | exact⟨⟨k+1,o++[d],nb,by omega,by go_num,rfl,hnb0.1,hnb0.2,HS,hA7,hB7,hR7,hO7,hb7⟩,by simp[intOf];omega⟩
        | (go_roundw
           case rel=>exact⟨k+1,o++[d],nb,by omega,by go_num,rfl,hnb0.1,hnb0.2,HS,hA7,hB7,hR7,hO7,hb7⟩
           case measure=>simp[intOf];omega)
    · obtain rfl:6=k:=by omega
      have he:=hI.out.2.2
      rw[low_num (by rw[AL.out];omega),low_num (by rw[BL.out];omega)] at he
      have hfin:=(wd_of (c:=-bw) (v:=num a-num b) hI.out.1 hI.out.2.1 (by rw[<-he];grind)).1
      rw[padTo_full hI.out.2.1] at hO
      have OL:Keep (o.length=6):=⟨hI.out.2.1⟩
      have FIN:Keep _:=⟨hfin⟩
      clear he hfin
      go_wp2_with (first
        | (refine wpList_load_row rfl 24 (.tmp 5) rfl (w.heap.size+1+1+1) rfl _ _ _ _ hO.eq Tryz.underlying24 rfl (by rw[vals_size,OL.out];kernel_rfl) ?_)
        | (refine wpList_store_rowTo rfl 24 (.tmp 4) (.tmp 29) rfl rfl (w.heap.size+1+1) (vals .u64 o) rfl rfl _ _ hR.eq (by rw[vals_size,OL.out];kernel_rfl) (by rw[vals_size,vals_size,OL.out];rfl) vals_one ?_))
      refine bodyPost_ret (v:=.agg (vals .u64 o)) (results_cell_row rfl _ _ (w.heap.size+1+1) _ _ _ _ rfl (hR.row _).eq Tryz.underlying24 rfl (by rw[vals_size,OL.out];kernel_rfl)) rfl ⟨ret_eq (by rw[FIN.out]),below_row hb (by omega) _⟩
set_option maxHeartbeats 2000000 in
theorem refReduce_c (a:List Int)(hl:a.length=6)(hw:Words a)(w:World):Calls Tryz.prog 83 #[.agg (vals .u64 a)] w fun e w'=>e=.returned (.agg (vals .u64 (fe (num a))))/\Below w.heap.size w w':=by
  have HI:Keep (a.length=6/\Words a):=⟨hl,hw⟩
  clear hl hw
  have hA0:Has ((w.alloc (.cells (vals .u64 a) 24)).alloc (.cells (vals .u64 Z6) 24)) w.heap.size 24 (vals .u64 a):=(Has.new _ _ _).alloc _
  have hR0:Has ((w.alloc (.cells (vals .u64 a) 24)).alloc (.cells (vals .u64 Z6) 24)) (w.heap.size+1) 24 (vals .u64 Z6):=Has.new' _ (by simp) _ _
  have hb0:Below w.heap.size w ((w.alloc (.cells (vals .u64 a) 24)).alloc (.cells (vals .u64 Z6) 24)):=((Below.refl _ _).alloc (Nat.le_refl _) _).alloc (by simp) _
  go_enter Tryz.func83,Tryz.ntmps83
  go_wp2
  have hu0:num a<(9+1)*PP:=by have:=num6 HI.out.2 HI.out.1;have:=PP_lt;omega
  go_loopg [] 9 (fun (k:Nat) wr=>∃u:List Int,Keep (u.length=6/\Words u/\fe (num u)=fe (num a)/\num u<((k:Int)+1)*PP)/\Has wr w.heap.size 24 (vals .u64 u)/\Has wr (w.heap.size+1) 24 (vals .u64 Z6)/\Below w.heap.size w wr)
  case atStart=>exact⟨a,⟨HI.out.1,HI.out.2,rfl,hu0⟩,hA0,hR0,hb0⟩
  case round=>
    clear hA0 hR0 hb0 hu0
    obtain⟨u,HU,hA,hR,hb⟩:=hrel
    have UL:Keep (u.length=6):=⟨HU.out.1⟩
    by_cases hlt:num u<PP
    · have HD:Keep (decide (num u<PP)=true):=⟨decide_eq_true hlt⟩
      have FIN:Keep (u=fe (num a)):=⟨by rw[<-HU.out.2.2.1];exact fe_below HU.out.2.1 HU.out.1 hlt⟩
      clear hlt
      go_wp2_with (first
        | (have q1:=f1;refine wpList_load_row rfl 24 (.tmp 1) rfl w.heap.size rfl _ _ _ _ hA2.eq Tryz.underlying24 rfl (by rw[vals_size,UL.out];kernel_rfl) ?_)
        | (refine wpList_load_row rfl 24 (.tmp 1) rfl w.heap.size rfl _ _ _ _ hA.eq Tryz.underlying24 rfl (by rw[vals_size,UL.out];kernel_rfl) ?_)
        | (go_at_call 132
           refine (refBelow_c u UL.out HU.out.2.1 _).mono ?_
           rintro e w2 ⟨rfl,hb2⟩
           rw[HD.out]
           have hA2:=hA.keep hb2
           have hR2:=hR.keep hb2
           have hbb2:=hb.trans (hb2.mono hb.size)
           clear hA hR hb hb2
           have f1:=True.intro)
        | (refine wpList_store_rowTo rfl 24 (.tmp 2) (.tmp 9) rfl rfl (w.heap.size+1) (vals .u64 u) rfl rfl _ _ hR2.eq (by rw[vals_size,UL.out];kernel_rfl) (by rw[vals_size,vals_size,UL.out];rfl) vals_one ?_))
      refine bodyPost_ret (v:=.agg (vals .u64 u)) (results_cell_row rfl _ _ (w.heap.size+1) _ _ _ _ rfl (hR2.row _).eq Tryz.underlying24 rfl (by rw[vals_size,UL.out];kernel_rfl)) rfl ⟨ret_eq (by rw[FIN.out]),below_row hbb2 (by omega) _⟩
    · have HD:Keep (decide (num u<PP)=false):=⟨decide_eq_false hlt⟩
      have hk1:gk≠0:=by
        intro h0
        have:=HU.out.2.2.2
        rw[h0] at this
        omega
      obtain⟨m,rfl⟩:∃m,gk=m+1:=⟨gk-1,by omega⟩
      have hn:num (wd 6 (num u-num pL))=num u-PP:=by
        have h1:=num6 HU.out.2.1 HU.out.1
        have h2:=PP_pos
        rw[num_pL]
        exact num_wd_of (by omega) (by omega)
      have HV:Keep ((wd 6 (num u-num pL)).length=6/\Words (wd 6 (num u-num pL))/\fe (num (wd 6 (num u-num pL)))=fe (num a)/\num (wd 6 (num u-num pL))<((m:Int)+1)*PP):=⟨wd_len _ _,wd_words _ _,by rw[hn,<-HU.out.2.2.1];exact fe_congr (Int.sub_emod_right _ _),by rw[hn];have:=HU.out.2.2.2;grind⟩
      clear hlt hk1 hn
      go_wp2_with (first
        | (refine wpList_load_row rfl 24 (.tmp 1) rfl w.heap.size rfl _ _ _ _ hA.eq Tryz.underlying24 rfl (by rw[vals_size,UL.out];kernel_rfl) ?_)
        | (go_at_call 132
           refine (refBelow_c u UL.out HU.out.2.1 _).mono ?_
           rintro e w2 ⟨rfl,hb2⟩
           rw[HD.out]
           have hA2:=hA.keep hb2
           have hR2:=hR.keep hb2
           have hbb2:=hb.trans (hb2.mono hb.size)
           clear hA hR hb hb2))
      refine wp_fam 3 (by kernel_rfl) (by kernel_rfl) (fun I hI' fw hf hback=>?_)
      simp only[List.take_succ_cons,List.take_zero,List.drop_succ_cons,List.drop_zero]
      repeat (first
        | (go_big_quiet_want
           refine quiet_load_seg 24 (.tmp 1) (by rfl) w.heap.size 0 6 (by rfl) 24 .u64 u u _ (fun w' ⟨i,hi⟩=>by rw[hi];exact hA2.keep (hf i)) Tryz.underlying24 rfl (by kernel_rfl) (by rw[List.drop_zero,take_all UL.out]) (by rw[UL.out];omega) ?_
           simp only[Act.put,List.setIfInBounds_toArray,List.set_cons_zero,List.set_cons_succ]
           go_big_quiet_on)
        | go_big_quiet_step ((first
           | (go_at_call 134;exact calls_fam hf hback (refP_c _))
           | (go_at_call 133;exact calls_fam hf hback (refMinus_c u pL UL.out HU.out.2.1 pL_len pL_words _)))))
      refine wpQuiet_nil ?_
      intro w3 hb3
      have hA3:=hA2.keep hb3
      have hR3:=hR2.keep hb3
      have hbb3:=hbb2.trans (hb3.mono hbb2.size)
      clear hf hback hA2 hR2 hbb2 hb3
      go_wp2_with (refine store_abs (by rfl) 24 (.tmp 1) (.tmp 8) (by rfl) (by rfl) w.heap.size (vals .u64 (wd 6 (num u-num pL))) (by rfl) (by rfl) 24 _ hA3 (by rw[vals_size,HV.out.1];kernel_rfl) (by rw[vals_size,vals_size,HV.out.1,UL.out]) vals_one w.heap.size w hbb3 (Nat.le_refl _) ?_
                   intro w7 hA7 hkeep hb7
                   have hR7:=hkeep _ _ _ hR3 (by omega)
                   clear hkeep hR3 hA3 hbb3)
      go_roundg m
      case measure=>omega
      case rel=>exact⟨_,HV,hA7,hR7,hb7⟩
end Fp
namespace Fp
open Go Go.RowKit Reg Base Limb Bits
set_option maxHeartbeats 2000000 in
theorem refFpAdd_c (a b:List Int)(hl:a.length=6)(hw:Words a)(hl':b.length=6)(hw':Words b)(w:World):Calls Tryz.prog 82 #[.agg (vals .u64 a),.agg (vals .u64 b)] w fun e w'=>e=.returned (.agg (vals .u64 (fe (num a+num b))))/\Below w.heap.size w w':=by
  have AL:Keep _:=⟨hl⟩
  have AW:Keep _:=⟨hw⟩
  have BL:Keep _:=⟨hl'⟩
  have BW:Keep _:=⟨hw'⟩
  clear hl hw hl' hw'
  obtain⟨x,hx⟩:∃x,fe (num a)=x:=⟨_,rfl⟩
  obtain⟨y,hy⟩:∃y,fe (num b)=y:=⟨_,rfl⟩
  have XL:Keep (x.length=6/\Words x/\num x=num a%PP):=⟨hx▸fe_len _,hx▸fe_words _,by rw[<-hx,num_fe]⟩
  have YL:Keep (y.length=6/\Words y/\num y=num b%PP):=⟨hy▸fe_len _,hy▸fe_words _,by rw[<-hy,num_fe]⟩
  have HX:Keep _:=⟨hx⟩
  have HY:Keep _:=⟨hy⟩
  clear hx hy
  have hA0:Has (((w.alloc (.cells (vals .u64 a) 24)).alloc (.cells (vals .u64 b) 24)).alloc (.cells (vals .u64 Z6) 24)) w.heap.size 24 (vals .u64 a):=((Has.new _ _ _).alloc _).alloc _
  have hB0:Has (((w.alloc (.cells (vals .u64 a) 24)).alloc (.cells (vals .u64 b) 24)).alloc (.cells (vals .u64 Z6) 24)) (w.heap.size+1) 24 (vals .u64 b):=(Has.new' _ (by simp) _ _).alloc _
  have hR0:Has (((w.alloc (.cells (vals .u64 a) 24)).alloc (.cells (vals .u64 b) 24)).alloc (.cells (vals .u64 Z6) 24)) (w.heap.size+1+1) 24 (vals .u64 Z6):=Has.new' _ (by simp) _ _
  have hb0:Below w.heap.size w (((w.alloc (.cells (vals .u64 a) 24)).alloc (.cells (vals .u64 b) 24)).alloc (.cells (vals .u64 Z6) 24)):=(((Below.refl _ _).alloc (Nat.le_refl _) _).alloc (by simp) _).alloc (by simp<;>omega) _
  go_enter Tryz.func82,Tryz.ntmps82
  go_wp2_with (first
    | (refine wpList_load_row rfl 24 (.tmp 2) rfl w.heap.size rfl _ _ _ _ hA0.eq Tryz.underlying24 rfl (by rw[vals_size,AL.out];kernel_rfl) ?_)
    | (refine wpList_load_row rfl 24 (.tmp 3) rfl (w.heap.size+1) rfl _ _ _ _ hB2.eq Tryz.underlying24 rfl (by rw[vals_size,BL.out];kernel_rfl) ?_)
    | (have q1:=f1;go_at_call 83
       refine (refReduce_c b BL.out BW.out _).mono ?_
       rintro e w3 ⟨rfl,hb3⟩
       rw[HY.out]
       have hR3:=hR2.keep hb3
       have hX3:=hX2.keep hb3
       have hbb3:=hbb2.trans (hb3.mono hbb2.size)
       clear hR2 hX2 hbb2 hb3 hB2 q1 f1)
    | (go_at_call 83
       refine (refReduce_c a AL.out AW.out _).mono ?_
       rintro e w1 ⟨rfl,hb1⟩
       rw[HX.out]
       have hB1:=hB0.keep hb1
       have hR1:=hR0.keep hb1
       have hbb1:=hb0.trans (hb1.mono hb0.size)
       clear hA0 hB0 hR0 hb0 hb1
       have f1:=True.intro)
    | (refine store_abs2 (by rfl) 24 (.tmp 5) (.tmp 12) (by rfl) (by rfl) w1.heap.size (vals .u64 x) (by rfl) (by rfl) 24 (vals .u64 Z6) (Has.new' _ rfl _ _) (by rw[vals_size,XL.out.1];kernel_rfl) (by rw[vals_size,vals_size,XL.out.1];rfl) vals_one ?_
       intro w2 hX2 hkeep hbg
       have hbe:=((Below.refl w1.heap.size w1).alloc (Nat.le_refl _) (.cells (vals .u64 Z6) 24)).trans hbg
       have hB2:=hB1.keep hbe
       have hR2:=hR1.keep hbe
       have hbb2:=hbb1.trans (hbe.mono hbb1.size)
       have hg12:w.heap.size+1+1<w1.heap.size:=hR1.lt
       clear hkeep hbg hbe hB1 hR1 hbb1)
    | (refine store_abs2 (by rfl) 24 (.tmp 6) (.tmp 14) (by rfl) (by rfl) w3.heap.size (vals .u64 y) (by rfl) (by rfl) 24 (vals .u64 Z6) (Has.new' _ rfl _ _) (by rw[vals_size,YL.out.1];kernel_rfl) (by rw[vals_size,vals_size,YL.out.1];rfl) vals_one ?_
       intro w4 hY4 hkeep hbg
       have hbe:=((Below.refl w3.heap.size w3).alloc (Nat.le_refl _) (.cells (vals .u64 Z6) 24)).trans hbg
       have hX4:=hX3.keep hbe
       have hR4:=hR3.keep hbe
       have hbb4:=hbb3.trans (hbe.mono hbb3.size)
       have hg34:w1.heap.size<w3.heap.size:=hX3.lt
       clear hkeep hbg hbe hX3 hR3 hbb3))
  go_loopg [7,8] 6 (fun (gk:Nat) vc vi wr=>∃(k:Nat) (o:List Int) (c:Int),k+gk=6/\vi=.int .i64 k/\vc=.int .u64 c/\0<=c/\c<=1/\Keep (Words o/\o.length=k/\num o+wp k*c=low x k+low y k)/\Has wr (w.heap.size+1+1) 24 (vals .u64 Z6)/\Has wr w1.heap.size 24 (vals .u64 (o++x.drop k))/\Has wr w3.heap.size 24 (vals .u64 y)/\Below w.heap.size w wr)
  case atStart=>exact⟨0,[],0,rfl,rfl,rfl,by omega,by omega,⟨words_nil,rfl,by simp[num_nil,low_zero]⟩,hR4,hX4,hY4,hbb4⟩
  case round=>
    clear hX4 hY4 hR4 hbb4
    obtain⟨k,o,c,hk,rfl,rfl,hc0,hc1,hI,hR,hX,hY,hb⟩:=hrel
    by_cases hlt:k<6
    · obtain⟨m,rfl⟩:∃m,gk=m+1:=⟨gk-1,by omega⟩
      obtain⟨p,hp⟩:∃p,nth x k=p:=⟨_,rfl⟩
      obtain⟨q,hq⟩:∃q,nth y k=q:=⟨_,rfl⟩
      have bp:0<=p/\p<=18446744073709551615:=hp▸XL.out.2.1 k
      have bq:0<=q/\q<=18446744073709551615:=hq▸YL.out.2.1 k
      have hadd:=addc_run p q c bp.1 bq.1 hc0 hc1
      obtain⟨d,hd⟩:∃d,(p+q+c)%18446744073709551616=d:=⟨_,rfl⟩
      obtain⟨nb,hnb⟩:∃nb,(p+q+c)/18446744073709551616=nb:=⟨_,rfl⟩
      rw[hd,hnb] at hadd
      have hst:d+18446744073709551616*nb=p+q+c/\0<=d/\d<=18446744073709551615/\0<=nb/\nb<=1:=by rw[<-hd,<-hnb];omega
      have HS:Keep (Words (o++[d])/\(o++[d]).length=k+1/\num (o++[d])+wp (k+1)*nb=low x (k+1)+low y (k+1)):=⟨words_append hI.out.1 (words_one hst.2.1 hst.2.2.1),by rw[List.length_append,hI.out.2.1];rfl,add_step hI.out.2.1 hI.out.2.2 (by rw[hp,hq];exact hst.1)⟩
      have ML:Keep ((o++x.drop k).length=6):=⟨mix_len hI.out.2.1 XL.out.1 (by omega)⟩
      have MS:Keep ((o++x.drop k).set k d=(o++[d])++x.drop (k+1)):=⟨mix_set hI.out.2.1 (by rw[XL.out.1];exact hlt) d⟩
      have Q0:Keep (∀w',Below wr.heap.size wr w'->w'.cell? ⟨w1.heap.size,k,none⟩=some (.int .u64 p)):=⟨fun w' hb'=>by rw[<-hp,<-mix_nth (l:=x) hI.out.2.1];exact (hX.keep hb').val (by rw[ML.out];exact hlt)⟩
      have Q1:Keep (∀w',Below wr.heap.size wr w'->w'.cell? ⟨w3.heap.size,k,none⟩=some (.int .u64 q)):=⟨fun w' hb'=>by rw[<-hq];exact (hY.keep hb').val (by rw[YL.out.1];exact hlt)⟩
      have hnb0:0<=nb/\nb<=1:=hst.2.2.2
      clear hd hnb hp hq hst bp bq
      go_wp2
      refine wp_fam_all (by kernel_rfl) (by kernel_rfl) (fun I hI' fw hf hback=>?_)
      have c0:∀j,(fw j).cell? ⟨w1.heap.size,k,none⟩=some (.int .u64 p):=fun j=>Q0.out _ (hf j)
      have c1:∀j,(fw j).cell? ⟨w3.heap.size,k,none⟩=some (.int .u64 q):=fun j=>Q1.out _ (hf j)
      repeat (go_big_quiet_step (fail))
      refine wpQuiet_nil ?_
      intro w6 hb6
      clear c0 c1 hf hback hadd
      have hX6:=hX.keep hb6
      have hY6:=hY.keep hb6
      have hR6:=hR.keep hb6
      have hbb6:=hb.trans (hb6.mono hb.size)
      clear hX hY hR hb hb6
      have co:=hX6.val (i:=k) (by rw[ML.out];exact hlt)
      have zo:=hX6.frozen k
      have hX7:=hX6.set_ k (.int .u64 d)
      rw[vals_set,MS.out] at hX7
      have hY7:=hY6.far (p:=⟨w1.heap.size,k,none⟩) (by show w3.heap.size≠w1.heap.size;omega) (.int .u64 d)
      have hR7:=hR6.far (p:=⟨w1.heap.size,k,none⟩) (by show w.heap.size+1+1≠w1.heap.size;omega) (.int .u64 d)
      have hb7:=hbb6.setCell (p:=⟨w1.heap.size,k,none⟩) (by show w.heap.size<=w1.heap.size;omega) (.int .u64 d)
      clear hX6 hY6 hR6 hbb6
      go_wp2
      go_roundg m
      case measure=>omega
      case rel=>exact⟨k+1,o++[d],nb,by omega,by go_num,rfl,hnb0.1,hnb0.2,HS,hR7,hX7,hY7,hb7⟩
    · obtain rfl:6=k:=by omega
      have he:=hI.out.2.2
      rw[low_num (by rw[XL.out.1];omega),low_num (by rw[YL.out.1];omega)] at he
      have hno:num o=num x+num y:=by
        have h1:=fe_mod (num a)
        have h2:=fe_mod (num b)
        rw[<-XL.out.2.2] at h1
        rw[<-YL.out.2.2] at h2
        have h3:=PP_lt
        have h4:=num6 hI.out.1 hI.out.2.1
        obtain h5|h5:c=0∨c=1:=by omega
        · rw[h5] at he;omega
        · rw[h5] at he;omega
      have FIN:Keep (fe (num o)=fe (num a+num b)):=⟨fe_congr (by rw[hno,XL.out.2.2,YL.out.2.2,<-Int.add_emod])⟩
      have OL:Keep (o.length=6/\Words o):=⟨hI.out.2.1,hI.out.1⟩
      rw[mix_full (by rw[XL.out.1];omega)] at hX
      clear he hno
      go_wp2_with (first
        | (refine wpList_load_row rfl 24 (.tmp 5) rfl w1.heap.size rfl _ _ _ _ hX.eq Tryz.underlying24 rfl (by rw[vals_size,OL.out.1];kernel_rfl) ?_)
        | (go_at_call 83
           refine (refReduce_c o OL.out.1 OL.out.2 _).mono ?_
           rintro e w8 ⟨rfl,hb8⟩
           rw[FIN.out]
           have hR8:=hR.keep hb8
           have hbb8:=hb.trans (hb8.mono hb.size)
           clear hb8 hR hb hX hY)
        | (refine wpList_store_rowTo (by rfl) 24 (.tmp 4) (.tmp 35) (by rfl) (by rfl) (w.heap.size+1+1) (vals .u64 (fe (num a+num b))) (by rfl) (by rfl) _ _ hR8.eq (by rw[vals_size,fe_len];kernel_rfl) (by rw[vals_size,vals_size,fe_len];rfl) vals_one ?_))
      refine bodyPost_ret (v:=.agg (vals .u64 (fe (num a+num b)))) (results_cell_row rfl _ _ (w.heap.size+1+1) _ _ _ _ rfl (hR8.row _).eq Tryz.underlying24 rfl (by rw[vals_size,fe_len];kernel_rfl)) rfl ⟨rfl,below_row hbb8 (by omega) _⟩
theorem neg_mod (v:Int):(PP-v%PP)%PP=(-v)%PP:=by
 have h:=Int.mul_ediv_add_emod v PP
 rw[show PP-v%PP=-v+PP*(v/PP+1) by grind,Int.add_mul_emod_self_left]
set_option maxHeartbeats 2000000 in
theorem refNeg_c (a:List Int)(hl:a.length=6)(hw:Words a)(w:World):Calls Tryz.prog 84 #[.agg (vals .u64 a)] w fun e w'=>e=.returned (.agg (vals .u64 (fe (-num a))))/\Below w.heap.size w w':=by
  have AL:Keep _:=⟨hl⟩
  have AW:Keep _:=⟨hw⟩
  clear hl hw
  have FIN:Keep (fe (num (wd 6 (num pL-num (fe (num a)))))=fe (-num a)):=⟨by
    have h1:=fe_mod (num a)
    have h2:=PP_lt
    rw[num_pL,num_fe,num_wd_of (by omega) (by omega)]
    exact fe_congr (neg_mod _)⟩
  have hA0:Has ((w.alloc (.cells (vals .u64 a) 24)).alloc (.cells (vals .u64 Z6) 24)) w.heap.size 24 (vals .u64 a):=(Has.new _ _ _).alloc _
  have hR0:Has ((w.alloc (.cells (vals .u64 a) 24)).alloc (.cells (vals .u64 Z6) 24)) (w.heap.size+1) 24 (vals .u64 Z6):=Has.new' _ (by simp) _ _
  have hb0:Below w.heap.size w ((w.alloc (.cells (vals .u64 a) 24)).alloc (.cells (vals .u64 Z6) 24)):=((Below.refl _ _).alloc (Nat.le_refl _) _).alloc (by simp) _
  go_enter Tryz.func84,Tryz.ntmps84
  go_wp2
  refine wp_fam 5 (by kernel_rfl) (by kernel_rfl) (fun I hI' fw hf hback=>?_)
  simp only[List.take_succ_cons,List.take_zero,List.drop_succ_cons,List.drop_zero]
  repeat (first
    | (go_big_quiet_want
       refine quiet_load_seg 24 (.tmp 1) (by rfl) w.heap.size 0 6 (by rfl) 24 .u64 a a _ (fun w' ⟨i,hi⟩=>by rw[hi];exact hA0.keep (hf i)) Tryz.underlying24 rfl (by kernel_rfl) (by rw[List.drop_zero,take_all AL.out]) (by rw[AL.out];omega) ?_
       simp only[Act.put,List.setIfInBounds_toArray,List.set_cons_zero,List.set_cons_succ]
       go_big_quiet_on)
    | go_big_quiet_step ((first
       | (go_at_call 134;exact calls_fam hf hback (refP_c _))
       | (go_at_call 133;exact calls_fam hf hback (refMinus_c pL (fe (num a)) pL_len pL_words (fe_len _) (fe_words _) _))
       | (go_at_call 83;exact calls_fam hf hback (refReduce_c _ (by first|exact AL.out|exact wd_len _ _) (by first|exact AW.out|exact wd_words _ _) _)))))
  refine wpQuiet_nil ?_
  intro w3 hb3
  rw[FIN.out]
  have hR3:=hR0.keep hb3
  have hbb3:=hb0.trans (hb3.mono hb0.size)
  clear hf hback hA0 hR0 hb0 hb3
  go_wp2_with (refine wpList_store_rowTo (by rfl) 24 (.tmp 2) (.tmp 7) (by rfl) (by rfl) (w.heap.size+1) (vals .u64 (fe (-num a))) (by rfl) (by rfl) _ _ hR3.eq (by rw[vals_size,fe_len];kernel_rfl) (by rw[vals_size,vals_size,fe_len];rfl) vals_one ?_)
  refine bodyPost_ret (v:=.agg (vals .u64 (fe (-num a)))) (results_cell_row rfl _ _ (w.heap.size+1) _ _ _ _ rfl (hR3.row _).eq Tryz.underlying24 rfl (by rw[vals_size,fe_len];kernel_rfl)) rfl ⟨rfl,below_row hbb3 (by omega) _⟩
set_option maxHeartbeats 2000000 in
theorem refFpSub_c (a b:List Int)(hl:a.length=6)(hw:Words a)(hl':b.length=6)(hw':Words b)(w:World):Calls Tryz.prog 80 #[.agg (vals .u64 a),.agg (vals .u64 b)] w fun e w'=>e=.returned (.agg (vals .u64 (fe (num a-num b))))/\Below w.heap.size w w':=by
  have AL:Keep _:=⟨hl⟩
  have AW:Keep _:=⟨hw⟩
  have BL:Keep _:=⟨hl'⟩
  have BW:Keep _:=⟨hw'⟩
  clear hl hw hl' hw'
  have FIN:Keep (fe (num a+num (fe (-num b)))=fe (num a-num b)):=⟨fe_congr (by rw[num_fe,Int.add_emod,Int.emod_emod,<-Int.add_emod,Int.sub_eq_add_neg])⟩
  have hA0:Has (((w.alloc (.cells (vals .u64 a) 24)).alloc (.cells (vals .u64 b) 24)).alloc (.cells (vals .u64 Z6) 24)) w.heap.size 24 (vals .u64 a):=((Has.new _ _ _).alloc _).alloc _
  have hB0:Has (((w.alloc (.cells (vals .u64 a) 24)).alloc (.cells (vals .u64 b) 24)).alloc (.cells (vals .u64 Z6) 24)) (w.heap.size+1) 24 (vals .u64 b):=(Has.new' _ (by simp) _ _).alloc _
  have hR0:Has (((w.alloc (.cells (vals .u64 a) 24)).alloc (.cells (vals .u64 b) 24)).alloc (.cells (vals .u64 Z6) 24)) (w.heap.size+1+1) 24 (vals .u64 Z6):=Has.new' _ (by simp) _ _
  have hb0:Below w.heap.size w (((w.alloc (.cells (vals .u64 a) 24)).alloc (.cells (vals .u64 b) 24)).alloc (.cells (vals .u64 Z6) 24)):=(((Below.refl _ _).alloc (Nat.le_refl _) _).alloc (by simp) _).alloc (by simp<;>omega) _
  go_enter Tryz.func80,Tryz.ntmps80
  go_wp2
  refine wp_fam 4 (by kernel_rfl) (by kernel_rfl) (fun I hI' fw hf hback=>?_)
  simp only[List.take_succ_cons,List.take_zero,List.drop_succ_cons,List.drop_zero]
  repeat (first
    | (go_big_quiet_want
       refine quiet_load_seg 24 (.tmp 2) (by rfl) w.heap.size 0 6 (by rfl) 24 .u64 a a _ (fun w' ⟨i,hi⟩=>by rw[hi];exact hA0.keep (hf i)) Tryz.underlying24 rfl (by kernel_rfl) (by rw[List.drop_zero,take_all AL.out]) (by rw[AL.out];omega) ?_
       simp only[Act.put,List.setIfInBounds_toArray,List.set_cons_zero,List.set_cons_succ]
       go_big_quiet_on)
    | (go_big_quiet_want
       refine quiet_load_seg 24 (.tmp 3) (by rfl) (w.heap.size+1) 0 6 (by rfl) 24 .u64 b b _ (fun w' ⟨i,hi⟩=>by rw[hi];exact hB0.keep (hf i)) Tryz.underlying24 rfl (by kernel_rfl) (by rw[List.drop_zero,take_all BL.out]) (by rw[BL.out];omega) ?_
       simp only[Act.put,List.setIfInBounds_toArray,List.set_cons_zero,List.set_cons_succ]
       go_big_quiet_on)
    | go_big_quiet_step ((first
       | (go_at_call 84;exact calls_fam hf hback (refNeg_c b BL.out BW.out _))
       | (go_at_call 82;exact calls_fam hf hback (refFpAdd_c a (fe (-num b)) AL.out AW.out (fe_len _) (fe_words _) _)))))
  refine wpQuiet_nil ?_
  intro w3 hb3
  rw[FIN.out]
  have hR3:=hR0.keep hb3
  have hbb3:=hb0.trans (hb3.mono hb0.size)
  clear hf hback hA0 hB0 hR0 hb0 hb3
  go_wp2_with (refine wpList_store_rowTo (by rfl) 24 (.tmp 4) (.tmp 8) (by rfl) (by rfl) (w.heap.size+1+1) (vals .u64 (fe (num a-num b))) (by rfl) (by rfl) _ _ hR3.eq (by rw[vals_size,fe_len];kernel_rfl) (by rw[vals_size,vals_size,fe_len];rfl) vals_one ?_)
  refine bodyPost_ret (v:=.agg (vals .u64 (fe (num a-num b)))) (results_cell_row rfl _ _ (w.heap.size+1+1) _ _ _ _ rfl (hR3.row _).eq Tryz.underlying24 rfl (by rw[vals_size,fe_len];kernel_rfl)) rfl ⟨rfl,below_row hbb3 (by omega) _⟩
end Fp
namespace Fp
open Go Go.RowKit Reg Base Limb Bits
set_option maxHeartbeats 1000000 in
theorem len64_c (w:World):Calls Tryz.prog 181 #[.int .u64 1873798617647539867] w fun e w'=>e=.returned (.int .i64 61)/\w=w':=by
 go_enter Tryz.func181,Tryz.ntmps181
 go_wp2
 go_ret
 exact⟨by kernel_rfl,rfl⟩
set_option maxHeartbeats 1000000 in
theorem lz64_c (w:World):Calls Tryz.prog 174 #[.int .u64 1873798617647539867] w fun e w'=>e=.returned (.int .i64 3)/\w=w':=by
 go_enter Tryz.func174,Tryz.ntmps174
 go_wp2_with (go_at_call 181;refine (len64_c _).mono ?_;rintro e w' ⟨rfl,rfl⟩)
 go_ret
 exact⟨rfl,rfl⟩
theorem or_low (h t:Int)(h0:0<=h)(h1:h<2305843009213693952)(t0:0<=t)(t1:t<8):bits .or .u64 (h*8) t=h*8+t:=by
 go_bits2
theorem low_half:bits .and .u64 14990388941180318936 4294967295=3422500056:=by decide
set_option maxHeartbeats 8000000 in
theorem div64_c (hi lo:Int)(hh0:0<=hi)(hh1:hi<1873798617647539867)(hl0:0<=lo)(hl1:lo<=18446744073709551615)(w:World) :
  Calls Tryz.prog 155 #[.int .u64 hi,.int .u64 lo,.int .u64 1873798617647539867] w fun e w'=>e=.returned (.tuple #[.int .u64 ((hi*18446744073709551616+lo)/1873798617647539867),.int .u64 ((hi*18446744073709551616+lo)%1873798617647539867)])/\Below w.heap.size w w':=by
 by_cases hz:hi=0
 ·subst hz
  have e1:(0*18446744073709551616+lo)=lo:=by omega
  rw[e1]
  go_enter Tryz.func155,Tryz.ntmps155
  go_wp2
  refine wp_fam_all (by kernel_rfl) (by kernel_rfl) (fun I hI' fw hf hback=>?_)
  repeat (go_big_quiet_step (fail))
  refine wpQuiet_nil ?_
  intro w6 hb6
  go_wp2
  go_ret2
  exact⟨rfl,hb6⟩
 ·have hze:(hi==0)=false:=by rw[beq_eq_false_iff_ne];exact hz
  obtain⟨U,hU⟩:∃z,bits .or .u64 (hi*8) (lo/2305843009213693952)=z:=⟨_,rfl⟩
  have eU:U=hi*8+lo/2305843009213693952:=by rw[<-hU];exact or_low hi (lo/2305843009213693952) hh0 (by omega) (by omega) (by omega)
  obtain⟨T,hT⟩:∃z,IntKind.u64.wrap (lo*8)=z:=⟨_,rfl⟩
  have eT:T=lo*8%18446744073709551616:=by rw[<-hT,IntKind.wrap_u64]
  obtain⟨u1,hu1⟩:∃z,T/4294967296=z:=⟨_,rfl⟩
  obtain⟨u0,hu0⟩:∃z,bits .and .u64 T 4294967295=z:=⟨_,rfl⟩
  have eu0:u0=T%4294967296:=by rw[<-hu0];exact and_low32 T (by omega) (by omega)
  have hlow:=low_half
  obtain⟨Q,hQ⟩:∃z,IntKind.u64.wrap (U.tdiv 3490221905)=z:=⟨_,rfl⟩
  have hUb:0<=U/\U<14990388941180318936:=by omega
  have eQ:Q=U/3490221905:=by rw[<-hQ,Int.tdiv_eq_ediv_of_nonneg hUb.1,IntKind.wrap_u64];omega
  have hP:IntKind.u64.wrap (Q*3490221905)=Q*3490221905:=by rw[IntKind.wrap_u64];omega
  obtain⟨R,hR⟩:∃z,IntKind.u64.wrap (U-Q*3490221905)=z:=⟨_,rfl⟩
  have eR:R=U-Q*3490221905:=by rw[<-hR,IntKind.wrap_u64];omega
  have NUM:Keep (U*4294967296*4294967296+u1*4294967296+u0=(hi*18446744073709551616+lo)*8):=⟨by omega⟩
  have BU1:Keep (0<=U/\U<14990388941180318936/\0<=u1/\u1<4294967296):=⟨by omega⟩
  have BU0:Keep (0<=u0/\u0<4294967296):=⟨by omega⟩
  have S1:Keep (0<=Q/\Q<=4294967296/\0<=R/\R<4294967296/\Q*3490221905+R=U/\(U*4294967296+u1)/14990388941180318936<=Q):=⟨by omega⟩
  have hb1:Below w.heap.size w w:=Below.refl _ _
  clear eU eT eu0 eQ eR hUb
  go_enter Tryz.func155,Tryz.ntmps155
  go_wp2_with (go_at_call 174;refine (lz64_c _).mono ?_;rintro e w' ⟨rfl,rfl⟩)
  go_loopg [15,16] 4294967297 (fun (gk:Nat) vq vr wr=>∃q r:Int,vq=.int .u64 q/\vr=.int .u64 r/\0<=q/\q<=4294967296/\0<=r/\r<4294967296/\Keep (q*3490221905+r=U)/\Keep ((U*4294967296+u1)/14990388941180318936<=q)/\q.toNat<=gk/\Below w.heap.size w wr)
  case atStart=>exact⟨Q,R,rfl,rfl,S1.out.1,S1.out.2.1,S1.out.2.2.1,S1.out.2.2.2.1,⟨S1.out.2.2.2.2.1⟩,⟨S1.out.2.2.2.2.2⟩,by have:=S1.out;omega,hb1⟩
  case round=>
   clear hb1
   obtain⟨q,r,rfl,rfl,hq0,hq1,hr0,hr1,HE,HQ,hg,hb⟩:=hrel
   have hwr:IntKind.u64.wrap (r+3490221905)=r+3490221905:=by rw[IntKind.wrap_u64];omega
   have hwm:IntKind.u64.wrap (4294967296*r)=4294967296*r:=by rw[IntKind.wrap_u64];omega
   have hwa:IntKind.u64.wrap (4294967296*r+u1)=4294967296*r+u1:=by rw[IntKind.wrap_u64];have:=BU1.out;omega
   rcases Int.lt_or_le q 4294967296 with h1|h1
   ·have hwq:IntKind.u64.wrap (q*3422500056)=q*3422500056:=by rw[IntKind.wrap_u64];omega
    rcases Int.lt_or_le (4294967296*r+u1) (q*3422500056) with h2|h2
    ·have hpos:1<=q:=by have:=BU1.out;omega
     have hwd:IntKind.u64.wrap (q-1)=q-1:=by rw[IntKind.wrap_u64];omega
     have HQ':Keep ((U*4294967296+u1)/14990388941180318936<=q-1):=⟨by have:=HE.out;have:=HQ.out;have:=BU1.out;omega⟩
     rcases Int.lt_or_le (r+3490221905) 4294967296 with h3|h3
     ·obtain⟨m,rfl⟩:∃m,gk=m+1:=⟨gk-1,by omega⟩
      have HE':Keep ((q-1)*3490221905+(r+3490221905)=U):=⟨by have:=HE.out;omega⟩
      go_wp2
      go_roundg m
      case measure=>omega
      case rel=>exact⟨q-1,r+3490221905,rfl,rfl,by omega,by omega,by omega,by omega,HE',HQ',by omega,hb⟩
     ·have HF:Keep ((U*4294967296+u1)/14990388941180318936=q-1):=⟨by have:=HE.out;have:=HQ'.out;have:=BU1.out;omega⟩
      have hq0':0<=q-1:=by omega
      clear hq0 hq1 HE HQ HQ' hg
      obtain⟨q1,hq1⟩:∃z,q-1=z:=⟨_,rfl⟩
      rw[hq1] at HF hq0' hwd
      have HF1:Keep _:=⟨HF.out⟩
      obtain⟨A1,hA1⟩:∃z,IntKind.u64.wrap (U*4294967296)=z:=⟨_,rfl⟩
      obtain⟨A2,hA2⟩:∃z,IntKind.u64.wrap (A1+u1)=z:=⟨_,rfl⟩
      obtain⟨A3,hA3⟩:∃z,IntKind.u64.wrap (q1*14990388941180318936)=z:=⟨_,rfl⟩
      obtain⟨V,hV⟩:∃z,IntKind.u64.wrap (A2-A3)=z:=⟨_,rfl⟩
      have bv:V=U*4294967296+u1-q1*14990388941180318936/\0<=V/\V<14990388941180318936:=by
       have h1:=HF1.out
       have h2:=BU1.out
       rw[IntKind.wrap_u64] at hA1 hA2 hA3 hV
       omega
      have HV:Keep _:=⟨bv.1⟩
      obtain⟨Q2,hQ2⟩:∃z,IntKind.u64.wrap (V.tdiv 3490221905)=z:=⟨_,rfl⟩
      have eQ2:Q2=V/3490221905:=by rw[<-hQ2,Int.tdiv_eq_ediv_of_nonneg bv.2.1,IntKind.wrap_u64];omega
      have hP2:IntKind.u64.wrap (Q2*3490221905)=Q2*3490221905:=by rw[IntKind.wrap_u64];omega
      obtain⟨R2,hR2⟩:∃z,IntKind.u64.wrap (V-Q2*3490221905)=z:=⟨_,rfl⟩
      have eR2:R2=V-Q2*3490221905:=by rw[<-hR2,IntKind.wrap_u64];omega
      have BU2:Keep (0<=V/\V<14990388941180318936/\0<=u0/\u0<4294967296):=⟨by have:=BU0.out;omega⟩
      have S2:Keep (0<=Q2/\Q2<=4294967296/\0<=R2/\R2<4294967296/\Q2*3490221905+R2=V/\(V*4294967296+u0)/14990388941180318936<=Q2):=⟨by have:=BU0.out;omega⟩
      have hb2:=hb
      clear bv eQ2 eR2 hb
      go_wp2
      go_loopg [18,16] 4294967297 (fun (gk:Nat) vq vr wr=>∃q r:Int,vq=.int .u64 q/\vr=.int .u64 r/\0<=q/\q<=4294967296/\0<=r/\r<4294967296/\Keep (q*3490221905+r=V)/\Keep ((V*4294967296+u0)/14990388941180318936<=q)/\q.toNat<=gk/\Below w.heap.size w wr)
      case atStart=>exact⟨Q2,R2,rfl,rfl,S2.out.1,S2.out.2.1,S2.out.2.2.1,S2.out.2.2.2.1,⟨S2.out.2.2.2.2.1⟩,⟨S2.out.2.2.2.2.2⟩,by have:=S2.out;omega,hb2⟩
      case round=>
       clear hb2
       obtain⟨q,r,rfl,rfl,hq0,hq1,hr0,hr1,HE,HQ,hg,hb⟩:=hrel
       have hwr:IntKind.u64.wrap (r+3490221905)=r+3490221905:=by rw[IntKind.wrap_u64];omega
       have hwm:IntKind.u64.wrap (4294967296*r)=4294967296*r:=by rw[IntKind.wrap_u64];omega
       have hwa:IntKind.u64.wrap (4294967296*r+u0)=4294967296*r+u0:=by rw[IntKind.wrap_u64];have:=BU2.out;omega
       rcases Int.lt_or_le q 4294967296 with h1|h1
       ·have hwq:IntKind.u64.wrap (q*3422500056)=q*3422500056:=by rw[IntKind.wrap_u64];omega
        rcases Int.lt_or_le (4294967296*r+u0) (q*3422500056) with h2|h2
        ·have hpos:1<=q:=by have:=BU2.out;omega
         have hwd:IntKind.u64.wrap (q-1)=q-1:=by rw[IntKind.wrap_u64];omega
         have HQ':Keep ((V*4294967296+u0)/14990388941180318936<=q-1):=⟨by have:=HE.out;have:=HQ.out;have:=BU2.out;omega⟩
         rcases Int.lt_or_le (r+3490221905) 4294967296 with h3|h3
         ·obtain⟨m,rfl⟩:∃m,gk=m+1:=⟨gk-1,by omega⟩
          have HE':Keep ((q-1)*3490221905+(r+3490221905)=V):=⟨by have:=HE.out;omega⟩
          go_wp2
          go_roundg m
          case measure=>omega
          case rel=>exact⟨q-1,r+3490221905,rfl,rfl,by omega,by omega,by omega,by omega,HE',HQ',by omega,hb⟩
         ·have HF:Keep ((V*4294967296+u0)/14990388941180318936=q-1):=⟨by have:=HE.out;have:=HQ'.out;have:=BU2.out;omega⟩
          have hq0':0<=q-1:=by omega
          clear hq0 hq1 HE HQ HQ' hg
          obtain⟨q2,hq2⟩:∃z,q-1=z:=⟨_,rfl⟩
          rw[hq2] at HF hq0' hwd
          have HF0:Keep _:=⟨HF.out⟩
          obtain⟨B1,hB1⟩:∃z,IntKind.u64.wrap (V*4294967296)=z:=⟨_,rfl⟩
          obtain⟨B2,hB2⟩:∃z,IntKind.u64.wrap (B1+u0)=z:=⟨_,rfl⟩
          obtain⟨B3,hB3⟩:∃z,IntKind.u64.wrap (q2*14990388941180318936)=z:=⟨_,rfl⟩
          obtain⟨Z,hZ⟩:∃z,IntKind.u64.wrap (B2-B3)=z:=⟨_,rfl⟩
          have bz:Z=V*4294967296+u0-q2*14990388941180318936/\0<=Z/\Z<14990388941180318936/\0<=q2/\q2<4294967296:=by
           have h1:=HF0.out
           have h2:=BU2.out
           have h3:=BU0.out
           rw[IntKind.wrap_u64] at hB1 hB2 hB3 hZ
           omega
          have bq1:0<=q1/\q1<4294967296:=by have h1:=HF1.out;have h2:=BU1.out;omega
          have hC1:IntKind.u64.wrap (q1*4294967296)=q1*4294967296:=by rw[IntKind.wrap_u64];omega
          have hC2:IntKind.u64.wrap (q1*4294967296+q2)=q1*4294967296+q2:=by rw[IntKind.wrap_u64];omega
          have FIN:Keep (q1*4294967296+q2=(hi*18446744073709551616+lo)/1873798617647539867/\Z/8=(hi*18446744073709551616+lo)%1873798617647539867):=⟨by
           have h1:=HF1.out
           have h2:=NUM.out
           have h3:=HV.out
           omega⟩
          clear bz bq1
          go_wp2
          go_ret2
          exact⟨ret_eq (by rw[<-FIN.out.1,<-FIN.out.2];rfl),hb⟩
        ·have HF:Keep ((V*4294967296+u0)/14990388941180318936=q):=⟨by have:=HE.out;have:=HQ.out;have:=BU2.out;omega⟩
         have hn1:¬4294967296<=q:=by omega
         have hn2:¬4294967296*r+u0<q*3422500056:=by omega
         have hq0':0<=q:=hq0
         clear hq0 hq1 HE HQ hwr hg
         obtain⟨qaa,rfl⟩:∃z,z=q:=⟨_,rfl⟩
         have HF0:Keep _:=⟨HF.out⟩
         obtain⟨B1,hB1⟩:∃z,IntKind.u64.wrap (V*4294967296)=z:=⟨_,rfl⟩
         obtain⟨B2,hB2⟩:∃z,IntKind.u64.wrap (B1+u0)=z:=⟨_,rfl⟩
         obtain⟨B3,hB3⟩:∃z,IntKind.u64.wrap (qaa*14990388941180318936)=z:=⟨_,rfl⟩
         obtain⟨Z,hZ⟩:∃z,IntKind.u64.wrap (B2-B3)=z:=⟨_,rfl⟩
         have bz:Z=V*4294967296+u0-qaa*14990388941180318936/\0<=Z/\Z<14990388941180318936/\0<=qaa/\qaa<4294967296:=by
          have h1:=HF0.out
          have h2:=BU2.out
          have h3:=BU0.out
          rw[IntKind.wrap_u64] at hB1 hB2 hB3 hZ
          omega
         have bq1:0<=q1/\q1<4294967296:=by have h1:=HF1.out;have h2:=BU1.out;omega
         have hC1:IntKind.u64.wrap (q1*4294967296)=q1*4294967296:=by rw[IntKind.wrap_u64];omega
         have hC2:IntKind.u64.wrap (q1*4294967296+qaa)=q1*4294967296+qaa:=by rw[IntKind.wrap_u64];omega
         have FIN:Keep (q1*4294967296+qaa=(hi*18446744073709551616+lo)/1873798617647539867/\Z/8=(hi*18446744073709551616+lo)%1873798617647539867):=⟨by
          have h1:=HF1.out
          have h2:=NUM.out
          have h3:=HV.out
          omega⟩
         clear bz bq1
         go_wp2
         go_ret2
         exact⟨ret_eq (by rw[<-FIN.out.1,<-FIN.out.2];rfl),hb⟩
       ·have hpos:1<=q:=by omega
        have hwd:IntKind.u64.wrap (q-1)=q-1:=by rw[IntKind.wrap_u64];omega
        have HQ':Keep ((V*4294967296+u0)/14990388941180318936<=q-1):=⟨by have:=HE.out;have:=HQ.out;have:=BU2.out;omega⟩
        rcases Int.lt_or_le (r+3490221905) 4294967296 with h3|h3
        ·obtain⟨m,rfl⟩:∃m,gk=m+1:=⟨gk-1,by omega⟩
         have HE':Keep ((q-1)*3490221905+(r+3490221905)=V):=⟨by have:=HE.out;omega⟩
         go_wp2
         go_roundg m
         case measure=>omega
         case rel=>exact⟨q-1,r+3490221905,rfl,rfl,by omega,by omega,by omega,by omega,HE',HQ',by omega,hb⟩
        ·have HF:Keep ((V*4294967296+u0)/14990388941180318936=q-1):=⟨by have:=HE.out;have:=HQ'.out;have:=BU2.out;omega⟩
         have hq0':0<=q-1:=by omega
         clear hq0 hq1 HE HQ HQ' hwm hwa hg
         obtain⟨q2,hq2⟩:∃z,q-1=z:=⟨_,rfl⟩
         rw[hq2] at HF hq0' hwd
         have HF0:Keep _:=⟨HF.out⟩
         obtain⟨B1,hB1⟩:∃z,IntKind.u64.wrap (V*4294967296)=z:=⟨_,rfl⟩
         obtain⟨B2,hB2⟩:∃z,IntKind.u64.wrap (B1+u0)=z:=⟨_,rfl⟩
         obtain⟨B3,hB3⟩:∃z,IntKind.u64.wrap (q2*14990388941180318936)=z:=⟨_,rfl⟩
         obtain⟨Z,hZ⟩:∃z,IntKind.u64.wrap (B2-B3)=z:=⟨_,rfl⟩
         have bz:Z=V*4294967296+u0-q2*14990388941180318936/\0<=Z/\Z<14990388941180318936/\0<=q2/\q2<4294967296:=by
          have h1:=HF0.out
          have h2:=BU2.out
          have h3:=BU0.out
          rw[IntKind.wrap_u64] at hB1 hB2 hB3 hZ
          omega
         have bq1:0<=q1/\q1<4294967296:=by have h1:=HF1.out;have h2:=BU1.out;omega
         have hC1:IntKind.u64.wrap (q1*4294967296)=q1*4294967296:=by rw[IntKind.wrap_u64];omega
         have hC2:IntKind.u64.wrap (q1*4294967296+q2)=q1*4294967296+q2:=by rw[IntKind.wrap_u64];omega
         have FIN:Keep (q1*4294967296+q2=(hi*18446744073709551616+lo)/1873798617647539867/\Z/8=(hi*18446744073709551616+lo)%1873798617647539867):=⟨by
          have h1:=HF1.out
          have h2:=NUM.out
          have h3:=HV.out
          omega⟩
         clear bz bq1
         go_wp2
         go_ret2
         exact⟨ret_eq (by rw[<-FIN.out.1,<-FIN.out.2];rfl),hb⟩
    ·have HF:Keep ((U*4294967296+u1)/14990388941180318936=q):=⟨by have:=HE.out;have:=HQ.out;have:=BU1.out;omega⟩
     have hn1:¬4294967296<=q:=by omega
     have hn2:¬4294967296*r+u1<q*3422500056:=by omega
     have hq0':0<=q:=hq0
     clear hq0 hq1 HE HQ hwr hg
     obtain⟨qa,rfl⟩:∃z,z=q:=⟨_,rfl⟩
     have HF1:Keep _:=⟨HF.out⟩
     obtain⟨A1,hA1⟩:∃z,IntKind.u64.wrap (U*4294967296)=z:=⟨_,rfl⟩
     obtain⟨A2,hA2⟩:∃z,IntKind.u64.wrap (A1+u1)=z:=⟨_,rfl⟩
     obtain⟨A3,hA3⟩:∃z,IntKind.u64.wrap (qa*14990388941180318936)=z:=⟨_,rfl⟩
     obtain⟨V,hV⟩:∃z,IntKind.u64.wrap (A2-A3)=z:=⟨_,rfl⟩
     have bv:V=U*4294967296+u1-qa*14990388941180318936/\0<=V/\V<14990388941180318936:=by
      have h1:=HF1.out
      have h2:=BU1.out
      rw[IntKind.wrap_u64] at hA1 hA2 hA3 hV
      omega
     have HV:Keep _:=⟨bv.1⟩
     obtain⟨Q2,hQ2⟩:∃z,IntKind.u64.wrap (V.tdiv 3490221905)=z:=⟨_,rfl⟩
     have eQ2:Q2=V/3490221905:=by rw[<-hQ2,Int.tdiv_eq_ediv_of_nonneg bv.2.1,IntKind.wrap_u64];omega
     have hP2:IntKind.u64.wrap (Q2*3490221905)=Q2*3490221905:=by rw[IntKind.wrap_u64];omega
     obtain⟨R2,hR2⟩:∃z,IntKind.u64.wrap (V-Q2*3490221905)=z:=⟨_,rfl⟩
     have eR2:R2=V-Q2*3490221905:=by rw[<-hR2,IntKind.wrap_u64];omega
     have BU2:Keep (0<=V/\V<14990388941180318936/\0<=u0/\u0<4294967296):=⟨by have:=BU0.out;omega⟩
     have S2:Keep (0<=Q2/\Q2<=4294967296/\0<=R2/\R2<4294967296/\Q2*3490221905+R2=V/\(V*4294967296+u0)/14990388941180318936<=Q2):=⟨by have:=BU0.out;omega⟩
     have hb2:=hb
     clear bv eQ2 eR2 hb
     go_wp2
     go_loopg [18,16] 4294967297 (fun (gk:Nat) vq vr wr=>∃q r:Int,vq=.int .u64 q/\vr=.int .u64 r/\0<=q/\q<=4294967296/\0<=r/\r<4294967296/\Keep (q*3490221905+r=V)/\Keep ((V*4294967296+u0)/14990388941180318936<=q)/\q.toNat<=gk/\Below w.heap.size w wr)
     case atStart=>exact⟨Q2,R2,rfl,rfl,S2.out.1,S2.out.2.1,S2.out.2.2.1,S2.out.2.2.2.1,⟨S2.out.2.2.2.2.1⟩,⟨S2.out.2.2.2.2.2⟩,by have:=S2.out;omega,hb2⟩
     case round=>
      clear hb2
      obtain⟨q,r,rfl,rfl,hq0,hq1,hr0,hr1,HE,HQ,hg,hb⟩:=hrel
      have hwr:IntKind.u64.wrap (r+3490221905)=r+3490221905:=by rw[IntKind.wrap_u64];omega
      have hwm:IntKind.u64.wrap (4294967296*r)=4294967296*r:=by rw[IntKind.wrap_u64];omega
      have hwa:IntKind.u64.wrap (4294967296*r+u0)=4294967296*r+u0:=by rw[IntKind.wrap_u64];have:=BU2.out;omega
      rcases Int.lt_or_le q 4294967296 with h1|h1
      ·have hwq:IntKind.u64.wrap (q*3422500056)=q*3422500056:=by rw[IntKind.wrap_u64];omega
       rcases Int.lt_or_le (4294967296*r+u0) (q*3422500056) with h2|h2
       ·have hpos:1<=q:=by have:=BU2.out;omega
        have hwd:IntKind.u64.wrap (q-1)=q-1:=by rw[IntKind.wrap_u64];omega
        have HQ':Keep ((V*4294967296+u0)/14990388941180318936<=q-1):=⟨by have:=HE.out;have:=HQ.out;have:=BU2.out;omega⟩
        rcases Int.lt_or_le (r+3490221905) 4294967296 with h3|h3
        ·obtain⟨m,rfl⟩:∃m,gk=m+1:=⟨gk-1,by omega⟩
         have HE':Keep ((q-1)*3490221905+(r+3490221905)=V):=⟨by have:=HE.out;omega⟩
         go_wp2
         go_roundg m
         case measure=>omega
         case rel=>exact⟨q-1,r+3490221905,rfl,rfl,by omega,by omega,by omega,by omega,HE',HQ',by omega,hb⟩
        ·have HF:Keep ((V*4294967296+u0)/14990388941180318936=q-1):=⟨by have:=HE.out;have:=HQ'.out;have:=BU2.out;omega⟩
         have hq0':0<=q-1:=by omega
         clear hq0 hq1 HE HQ HQ' hg
         obtain⟨q2,hq2⟩:∃z,q-1=z:=⟨_,rfl⟩
         rw[hq2] at HF hq0' hwd
         have HF0:Keep _:=⟨HF.out⟩
         obtain⟨B1,hB1⟩:∃z,IntKind.u64.wrap (V*4294967296)=z:=⟨_,rfl⟩
         obtain⟨B2,hB2⟩:∃z,IntKind.u64.wrap (B1+u0)=z:=⟨_,rfl⟩
         obtain⟨B3,hB3⟩:∃z,IntKind.u64.wrap (q2*14990388941180318936)=z:=⟨_,rfl⟩
         obtain⟨Z,hZ⟩:∃z,IntKind.u64.wrap (B2-B3)=z:=⟨_,rfl⟩
         have bz:Z=V*4294967296+u0-q2*14990388941180318936/\0<=Z/\Z<14990388941180318936/\0<=q2/\q2<4294967296:=by
          have h1:=HF0.out
          have h2:=BU2.out
          have h3:=BU0.out
          rw[IntKind.wrap_u64] at hB1 hB2 hB3 hZ
          omega
         have bq1:0<=qa/\qa<4294967296:=by have h1:=HF1.out;have h2:=BU1.out;omega
         have hC1:IntKind.u64.wrap (qa*4294967296)=qa*4294967296:=by rw[IntKind.wrap_u64];omega
         have hC2:IntKind.u64.wrap (qa*4294967296+q2)=qa*4294967296+q2:=by rw[IntKind.wrap_u64];omega
         have FIN:Keep (qa*4294967296+q2=(hi*18446744073709551616+lo)/1873798617647539867/\Z/8=(hi*18446744073709551616+lo)%1873798617647539867):=⟨by
          have h1:=HF1.out
          have h2:=NUM.out
          have h3:=HV.out
          omega⟩
         clear bz bq1
         go_wp2
         go_ret2
         exact⟨ret_eq (by rw[<-FIN.out.1,<-FIN.out.2];rfl),hb⟩
       ·have HF:Keep ((V*4294967296+u0)/14990388941180318936=q):=⟨by have:=HE.out;have:=HQ.out;have:=BU2.out;omega⟩
        have hn1:¬4294967296<=q:=by omega
        have hn2:¬4294967296*r+u0<q*3422500056:=by omega
        have hq0':0<=q:=hq0
        clear hq0 hq1 HE HQ hwr hg
        obtain⟨qaa,rfl⟩:∃z,z=q:=⟨_,rfl⟩
        have HF0:Keep _:=⟨HF.out⟩
        obtain⟨B1,hB1⟩:∃z,IntKind.u64.wrap (V*4294967296)=z:=⟨_,rfl⟩
        obtain⟨B2,hB2⟩:∃z,IntKind.u64.wrap (B1+u0)=z:=⟨_,rfl⟩
        obtain⟨B3,hB3⟩:∃z,IntKind.u64.wrap (qaa*14990388941180318936)=z:=⟨_,rfl⟩
        obtain⟨Z,hZ⟩:∃z,IntKind.u64.wrap (B2-B3)=z:=⟨_,rfl⟩
        have bz:Z=V*4294967296+u0-qaa*14990388941180318936/\0<=Z/\Z<14990388941180318936/\0<=qaa/\qaa<4294967296:=by
         have h1:=HF0.out
         have h2:=BU2.out
         have h3:=BU0.out
         rw[IntKind.wrap_u64] at hB1 hB2 hB3 hZ
         omega
        have bq1:0<=qa/\qa<4294967296:=by have h1:=HF1.out;have h2:=BU1.out;omega
        have hC1:IntKind.u64.wrap (qa*4294967296)=qa*4294967296:=by rw[IntKind.wrap_u64];omega
        have hC2:IntKind.u64.wrap (qa*4294967296+qaa)=qa*4294967296+qaa:=by rw[IntKind.wrap_u64];omega
        have FIN:Keep (qa*4294967296+qaa=(hi*18446744073709551616+lo)/1873798617647539867/\Z/8=(hi*18446744073709551616+lo)%1873798617647539867):=⟨by
         have h1:=HF1.out
         have h2:=NUM.out
         have h3:=HV.out
         omega⟩
        clear bz bq1
        go_wp2
        go_ret2
        exact⟨ret_eq (by rw[<-FIN.out.1,<-FIN.out.2];rfl),hb⟩
      ·have hpos:1<=q:=by omega
       have hwd:IntKind.u64.wrap (q-1)=q-1:=by rw[IntKind.wrap_u64];omega
       have HQ':Keep ((V*4294967296+u0)/14990388941180318936<=q-1):=⟨by have:=HE.out;have:=HQ.out;have:=BU2.out;omega⟩
       rcases Int.lt_or_le (r+3490221905) 4294967296 with h3|h3
       ·obtain⟨m,rfl⟩:∃m,gk=m+1:=⟨gk-1,by omega⟩
        have HE':Keep ((q-1)*3490221905+(r+3490221905)=V):=⟨by have:=HE.out;omega⟩
        go_wp2
        go_roundg m
        case measure=>omega
        case rel=>exact⟨q-1,r+3490221905,rfl,rfl,by omega,by omega,by omega,by omega,HE',HQ',by omega,hb⟩
       ·have HF:Keep ((V*4294967296+u0)/14990388941180318936=q-1):=⟨by have:=HE.out;have:=HQ'.out;have:=BU2.out;omega⟩
        have hq0':0<=q-1:=by omega
        clear hq0 hq1 HE HQ HQ' hwm hwa hg
        obtain⟨q2,hq2⟩:∃z,q-1=z:=⟨_,rfl⟩
        rw[hq2] at HF hq0' hwd
        have HF0:Keep _:=⟨HF.out⟩
        obtain⟨B1,hB1⟩:∃z,IntKind.u64.wrap (V*4294967296)=z:=⟨_,rfl⟩
        obtain⟨B2,hB2⟩:∃z,IntKind.u64.wrap (B1+u0)=z:=⟨_,rfl⟩
        obtain⟨B3,hB3⟩:∃z,IntKind.u64.wrap (q2*14990388941180318936)=z:=⟨_,rfl⟩
        obtain⟨Z,hZ⟩:∃z,IntKind.u64.wrap (B2-B3)=z:=⟨_,rfl⟩
        have bz:Z=V*4294967296+u0-q2*14990388941180318936/\0<=Z/\Z<14990388941180318936/\0<=q2/\q2<4294967296:=by
         have h1:=HF0.out
         have h2:=BU2.out
         have h3:=BU0.out
         rw[IntKind.wrap_u64] at hB1 hB2 hB3 hZ
         omega
        have bq1:0<=qa/\qa<4294967296:=by have h1:=HF1.out;have h2:=BU1.out;omega
        have hC1:IntKind.u64.wrap (qa*4294967296)=qa*4294967296:=by rw[IntKind.wrap_u64];omega
        have hC2:IntKind.u64.wrap (qa*4294967296+q2)=qa*4294967296+q2:=by rw[IntKind.wrap_u64];omega
        have FIN:Keep (qa*4294967296+q2=(hi*18446744073709551616+lo)/1873798617647539867/\Z/8=(hi*18446744073709551616+lo)%1873798617647539867):=⟨by
         have h1:=HF1.out
         have h2:=NUM.out
         have h3:=HV.out
         omega⟩
        clear bz bq1
        go_wp2
        go_ret2
        exact⟨ret_eq (by rw[<-FIN.out.1,<-FIN.out.2];rfl),hb⟩
   ·have hpos:1<=q:=by omega
    have hwd:IntKind.u64.wrap (q-1)=q-1:=by rw[IntKind.wrap_u64];omega
    have HQ':Keep ((U*4294967296+u1)/14990388941180318936<=q-1):=⟨by have:=HE.out;have:=HQ.out;have:=BU1.out;omega⟩
    rcases Int.lt_or_le (r+3490221905) 4294967296 with h3|h3
    ·obtain⟨m,rfl⟩:∃m,gk=m+1:=⟨gk-1,by omega⟩
     have HE':Keep ((q-1)*3490221905+(r+3490221905)=U):=⟨by have:=HE.out;omega⟩
     go_wp2
     go_roundg m
     case measure=>omega
     case rel=>exact⟨q-1,r+3490221905,rfl,rfl,by omega,by omega,by omega,by omega,HE',HQ',by omega,hb⟩
    ·have HF:Keep ((U*4294967296+u1)/14990388941180318936=q-1):=⟨by have:=HE.out;have:=HQ'.out;have:=BU1.out;omega⟩
     have hq0':0<=q-1:=by omega
     clear hq0 hq1 HE HQ HQ' hwm hwa hg
     obtain⟨q1,hq1⟩:∃z,q-1=z:=⟨_,rfl⟩
     rw[hq1] at HF hq0' hwd
     have HF1:Keep _:=⟨HF.out⟩
     obtain⟨A1,hA1⟩:∃z,IntKind.u64.wrap (U*4294967296)=z:=⟨_,rfl⟩
     obtain⟨A2,hA2⟩:∃z,IntKind.u64.wrap (A1+u1)=z:=⟨_,rfl⟩
     obtain⟨A3,hA3⟩:∃z,IntKind.u64.wrap (q1*14990388941180318936)=z:=⟨_,rfl⟩
     obtain⟨V,hV⟩:∃z,IntKind.u64.wrap (A2-A3)=z:=⟨_,rfl⟩
     have bv:V=U*4294967296+u1-q1*14990388941180318936/\0<=V/\V<14990388941180318936:=by
      have h1:=HF1.out
      have h2:=BU1.out
      rw[IntKind.wrap_u64] at hA1 hA2 hA3 hV
      omega
     have HV:Keep _:=⟨bv.1⟩
     obtain⟨Q2,hQ2⟩:∃z,IntKind.u64.wrap (V.tdiv 3490221905)=z:=⟨_,rfl⟩
     have eQ2:Q2=V/3490221905:=by rw[<-hQ2,Int.tdiv_eq_ediv_of_nonneg bv.2.1,IntKind.wrap_u64];omega
     have hP2:IntKind.u64.wrap (Q2*3490221905)=Q2*3490221905:=by rw[IntKind.wrap_u64];omega
     obtain⟨R2,hR2⟩:∃z,IntKind.u64.wrap (V-Q2*3490221905)=z:=⟨_,rfl⟩
     have eR2:R2=V-Q2*3490221905:=by rw[<-hR2,IntKind.wrap_u64];omega
     have BU2:Keep (0<=V/\V<14990388941180318936/\0<=u0/\u0<4294967296):=⟨by have:=BU0.out;omega⟩
     have S2:Keep (0<=Q2/\Q2<=4294967296/\0<=R2/\R2<4294967296/\Q2*3490221905+R2=V/\(V*4294967296+u0)/14990388941180318936<=Q2):=⟨by have:=BU0.out;omega⟩
     have hb2:=hb
     clear bv eQ2 eR2 hb
     go_wp2
     go_loopg [18,16] 4294967297 (fun (gk:Nat) vq vr wr=>∃q r:Int,vq=.int .u64 q/\vr=.int .u64 r/\0<=q/\q<=4294967296/\0<=r/\r<4294967296/\Keep (q*3490221905+r=V)/\Keep ((V*4294967296+u0)/14990388941180318936<=q)/\q.toNat<=gk/\Below w.heap.size w wr)
     case atStart=>exact⟨Q2,R2,rfl,rfl,S2.out.1,S2.out.2.1,S2.out.2.2.1,S2.out.2.2.2.1,⟨S2.out.2.2.2.2.1⟩,⟨S2.out.2.2.2.2.2⟩,by have:=S2.out;omega,hb2⟩
     case round=>
      clear hb2
      obtain⟨q,r,rfl,rfl,hq0,hq1,hr0,hr1,HE,HQ,hg,hb⟩:=hrel
      have hwr:IntKind.u64.wrap (r+3490221905)=r+3490221905:=by rw[IntKind.wrap_u64];omega
      have hwm:IntKind.u64.wrap (4294967296*r)=4294967296*r:=by rw[IntKind.wrap_u64];omega
      have hwa:IntKind.u64.wrap (4294967296*r+u0)=4294967296*r+u0:=by rw[IntKind.wrap_u64];have:=BU2.out;omega
      rcases Int.lt_or_le q 4294967296 with h1|h1
      ·have hwq:IntKind.u64.wrap (q*3422500056)=q*3422500056:=by rw[IntKind.wrap_u64];omega
       rcases Int.lt_or_le (4294967296*r+u0) (q*3422500056) with h2|h2
       ·have hpos:1<=q:=by have:=BU2.out;omega
        have hwd:IntKind.u64.wrap (q-1)=q-1:=by rw[IntKind.wrap_u64];omega
        have HQ':Keep ((V*4294967296+u0)/14990388941180318936<=q-1):=⟨by have:=HE.out;have:=HQ.out;have:=BU2.out;omega⟩
        rcases Int.lt_or_le (r+3490221905) 4294967296 with h3|h3
        ·obtain⟨m,rfl⟩:∃m,gk=m+1:=⟨gk-1,by omega⟩
         have HE':Keep ((q-1)*3490221905+(r+3490221905)=V):=⟨by have:=HE.out;omega⟩
         go_wp2
         go_roundg m
         case measure=>omega
         case rel=>exact⟨q-1,r+3490221905,rfl,rfl,by omega,by omega,by omega,by omega,HE',HQ',by omega,hb⟩
        ·have HF:Keep ((V*4294967296+u0)/14990388941180318936=q-1):=⟨by have:=HE.out;have:=HQ'.out;have:=BU2.out;omega⟩
         have hq0':0<=q-1:=by omega
         clear hq0 hq1 HE HQ HQ' hg
         obtain⟨q2,hq2⟩:∃z,q-1=z:=⟨_,rfl⟩
         rw[hq2] at HF hq0' hwd
         have HF0:Keep _:=⟨HF.out⟩
         obtain⟨B1,hB1⟩:∃z,IntKind.u64.wrap (V*4294967296)=z:=⟨_,rfl⟩
         obtain⟨B2,hB2⟩:∃z,IntKind.u64.wrap (B1+u0)=z:=⟨_,rfl⟩
         obtain⟨B3,hB3⟩:∃z,IntKind.u64.wrap (q2*14990388941180318936)=z:=⟨_,rfl⟩
         obtain⟨Z,hZ⟩:∃z,IntKind.u64.wrap (B2-B3)=z:=⟨_,rfl⟩
         have bz:Z=V*4294967296+u0-q2*14990388941180318936/\0<=Z/\Z<14990388941180318936/\0<=q2/\q2<4294967296:=by
          have h1:=HF0.out
          have h2:=BU2.out
          have h3:=BU0.out
          rw[IntKind.wrap_u64] at hB1 hB2 hB3 hZ
          omega
         have bq1:0<=q1/\q1<4294967296:=by have h1:=HF1.out;have h2:=BU1.out;omega
         have hC1:IntKind.u64.wrap (q1*4294967296)=q1*4294967296:=by rw[IntKind.wrap_u64];omega
         have hC2:IntKind.u64.wrap (q1*4294967296+q2)=q1*4294967296+q2:=by rw[IntKind.wrap_u64];omega
         have FIN:Keep (q1*4294967296+q2=(hi*18446744073709551616+lo)/1873798617647539867/\Z/8=(hi*18446744073709551616+lo)%1873798617647539867):=⟨by
          have h1:=HF1.out
          have h2:=NUM.out
          have h3:=HV.out
          omega⟩
         clear bz bq1
         go_wp2
         go_ret2
         exact⟨ret_eq (by rw[<-FIN.out.1,<-FIN.out.2];rfl),hb⟩
       ·have HF:Keep ((V*4294967296+u0)/14990388941180318936=q):=⟨by have:=HE.out;have:=HQ.out;have:=BU2.out;omega⟩
        have hn1:¬4294967296<=q:=by omega
        have hn2:¬4294967296*r+u0<q*3422500056:=by omega
        have hq0':0<=q:=hq0
        clear hq0 hq1 HE HQ hwr hg
        obtain⟨qaa,rfl⟩:∃z,z=q:=⟨_,rfl⟩
        have HF0:Keep _:=⟨HF.out⟩
        obtain⟨B1,hB1⟩:∃z,IntKind.u64.wrap (V*4294967296)=z:=⟨_,rfl⟩
        obtain⟨B2,hB2⟩:∃z,IntKind.u64.wrap (B1+u0)=z:=⟨_,rfl⟩
        obtain⟨B3,hB3⟩:∃z,IntKind.u64.wrap (qaa*14990388941180318936)=z:=⟨_,rfl⟩
        obtain⟨Z,hZ⟩:∃z,IntKind.u64.wrap (B2-B3)=z:=⟨_,rfl⟩
        have bz:Z=V*4294967296+u0-qaa*14990388941180318936/\0<=Z/\Z<14990388941180318936/\0<=qaa/\qaa<4294967296:=by
         have h1:=HF0.out
         have h2:=BU2.out
         have h3:=BU0.out
         rw[IntKind.wrap_u64] at hB1 hB2 hB3 hZ
         omega
        have bq1:0<=q1/\q1<4294967296:=by have h1:=HF1.out;have h2:=BU1.out;omega
        have hC1:IntKind.u64.wrap (q1*4294967296)=q1*4294967296:=by rw[IntKind.wrap_u64];omega
        have hC2:IntKind.u64.wrap (q1*4294967296+qaa)=q1*4294967296+qaa:=by rw[IntKind.wrap_u64];omega
        have FIN:Keep (q1*4294967296+qaa=(hi*18446744073709551616+lo)/1873798617647539867/\Z/8=(hi*18446744073709551616+lo)%1873798617647539867):=⟨by
         have h1:=HF1.out
         have h2:=NUM.out
         have h3:=HV.out
         omega⟩
        clear bz bq1
        go_wp2
        go_ret2
        exact⟨ret_eq (by rw[<-FIN.out.1,<-FIN.out.2];rfl),hb⟩
      ·have hpos:1<=q:=by omega
       have hwd:IntKind.u64.wrap (q-1)=q-1:=by rw[IntKind.wrap_u64];omega
       have HQ':Keep ((V*4294967296+u0)/14990388941180318936<=q-1):=⟨by have:=HE.out;have:=HQ.out;have:=BU2.out;omega⟩
       rcases Int.lt_or_le (r+3490221905) 4294967296 with h3|h3
       ·obtain⟨m,rfl⟩:∃m,gk=m+1:=⟨gk-1,by omega⟩
        have HE':Keep ((q-1)*3490221905+(r+3490221905)=V):=⟨by have:=HE.out;omega⟩
        go_wp2
        go_roundg m
        case measure=>omega
        case rel=>exact⟨q-1,r+3490221905,rfl,rfl,by omega,by omega,by omega,by omega,HE',HQ',by omega,hb⟩
       ·have HF:Keep ((V*4294967296+u0)/14990388941180318936=q-1):=⟨by have:=HE.out;have:=HQ'.out;have:=BU2.out;omega⟩
        have hq0':0<=q-1:=by omega
        clear hq0 hq1 HE HQ HQ' hwm hwa hg
        obtain⟨q2,hq2⟩:∃z,q-1=z:=⟨_,rfl⟩
        rw[hq2] at HF hq0' hwd
        have HF0:Keep _:=⟨HF.out⟩
        obtain⟨B1,hB1⟩:∃z,IntKind.u64.wrap (V*4294967296)=z:=⟨_,rfl⟩
        obtain⟨B2,hB2⟩:∃z,IntKind.u64.wrap (B1+u0)=z:=⟨_,rfl⟩
        obtain⟨B3,hB3⟩:∃z,IntKind.u64.wrap (q2*14990388941180318936)=z:=⟨_,rfl⟩
        obtain⟨Z,hZ⟩:∃z,IntKind.u64.wrap (B2-B3)=z:=⟨_,rfl⟩
        have bz:Z=V*4294967296+u0-q2*14990388941180318936/\0<=Z/\Z<14990388941180318936/\0<=q2/\q2<4294967296:=by
         have h1:=HF0.out
         have h2:=BU2.out
         have h3:=BU0.out
         rw[IntKind.wrap_u64] at hB1 hB2 hB3 hZ
         omega
        have bq1:0<=q1/\q1<4294967296:=by have h1:=HF1.out;have h2:=BU1.out;omega
        have hC1:IntKind.u64.wrap (q1*4294967296)=q1*4294967296:=by rw[IntKind.wrap_u64];omega
        have hC2:IntKind.u64.wrap (q1*4294967296+q2)=q1*4294967296+q2:=by rw[IntKind.wrap_u64];omega
        have FIN:Keep (q1*4294967296+q2=(hi*18446744073709551616+lo)/1873798617647539867/\Z/8=(hi*18446744073709551616+lo)%1873798617647539867):=⟨by
         have h1:=HF1.out
         have h2:=NUM.out
         have h3:=HV.out
         omega⟩
        clear bz bq1
        go_wp2
        go_ret2
        exact⟨ret_eq (by rw[<-FIN.out.1,<-FIN.out.2];rfl),hb⟩
end Fp
namespace Fp
open Go Go.RowKit Reg Base Limb Bits
def Z7:List Int:=[0,0,0,0,0,0,0]
theorem less_arith {p q cy x bw:Int}(hp0:0<=p)(hp1:p<=18446744073709551615)(hq0:0<=q)(hq1:q<=18446744073709551615)(hc0:0<=cy)(hc1:cy<=18446744073709551615) :
  p*q/18446744073709551616+(p*q%18446744073709551616+cy)/18446744073709551616=(p*q+cy)/18446744073709551616/\(p*q%18446744073709551616+cy)%18446744073709551616=(p*q+cy)%18446744073709551616/\0<=(p*q+cy)/18446744073709551616/\(p*q+cy)/18446744073709551616<=18446744073709551615:=by
 have h1:0<=p*q:=Int.mul_nonneg hp0 hq0
 have h2:p*q<=18446744073709551615*18446744073709551615:=Int.mul_le_mul hp1 hq1 hq0 (by omega)
 generalize p*q=m at *
 omega
theorem less_step {o a:List Int}{k:Nat}{cy bw c' b' s d p q x:Int}(ho:o.length=k)(hx:nth a k=x)(hp:nth pL k=p)(hi:num o+wp k * -(cy+bw)=low a k-low pL k*q)(h1:s+18446744073709551616*c'=p*q+cy)(h2:d-18446744073709551616*b'=x-s-bw) :
  num (o++[d])+wp (k+1) * -(c'+b')=low a (k+1)-low pL (k+1)*q:=by
 rw[num_snoc,ho,wp_succ,low_succ,low_succ,hx,hp]
 grind
set_option maxHeartbeats 4000000 in
theorem refFpLess_c (a:List Int)(hl:a.length=7)(hw:Words a)(q:Int)(hq0:0<=q)(hq1:q<=18446744073709551615)(w:World):Calls Tryz.prog 156 #[.agg (vals .u64 a),.int .u64 q] w fun e w'=>e=.returned (.agg (vals .u64 (wd 7 (num a-PP*q))))/\Below w.heap.size w w':=by
  have AL:Keep _:=⟨hl⟩
  have AW:Keep _:=⟨hw⟩
  clear hl hw
  have hA0:Has ((w.alloc (.cells (vals .u64 a) 141)).alloc (.cells (vals .u64 Z7) 141)) w.heap.size 141 (vals .u64 a):=(Has.new _ _ _).alloc _
  have hR0:Has ((w.alloc (.cells (vals .u64 a) 141)).alloc (.cells (vals .u64 Z7) 141)) (w.heap.size+1) 141 (vals .u64 Z7):=Has.new' _ (by simp) _ _
  have hb0:Below w.heap.size w ((w.alloc (.cells (vals .u64 a) 141)).alloc (.cells (vals .u64 Z7) 141)):=((Below.refl _ _).alloc (Nat.le_refl _) _).alloc (by simp) _
  go_enter Tryz.func156,Tryz.ntmps156
  go_wp2_with (first
    | (go_at_call 134
       refine (refP_c _).mono ?_
       rintro e w1 ⟨rfl,hb1⟩
       have hA1:=hA0.keep hb1
       have hR1:=hR0.keep hb1
       have hbb1:=hb0.trans (hb1.mono hb0.size)
       have hg1:=hR1.lt
       clear hA0 hR0 hb0 hb1)
    | (refine store_abs2 (by rfl) 24 (.tmp 5) (.tmp 18) (by rfl) (by rfl) w1.heap.size (vals .u64 pL) (by rfl) (by rfl) 24 (vals .u64 Z6) (Has.new' _ rfl _ _) (by kernel_rfl) (by rfl) vals_one ?_
       intro w2 hP2 hkeep hbg
       have hbe:=((Below.refl w1.heap.size w1).alloc (Nat.le_refl _) (.cells (vals .u64 Z6) 24)).trans hbg
       have hA2:=hA1.keep hbe
       have hR2:=hR1.keep hbe
       have hbb2:=hbb1.trans (hbe.mono hbb1.size)
       have hg2:=hP2.lt
       clear hkeep hbg hbe hA1 hR1 hbb1))
  have hO3:Has (w2.alloc (.cells (vals .u64 Z7) 141)) w2.heap.size 141 (vals .u64 (padTo 7 [])):=Has.new _ _ _
  have hA3:=hA2.alloc (.cells (vals .u64 Z7) 141)
  have hR3:=hR2.alloc (.cells (vals .u64 Z7) 141)
  have hP3:=hP2.alloc (.cells (vals .u64 Z7) 141)
  have hb3:=hbb2.alloc hbb2.size (.cells (vals .u64 Z7) 141)
  clear hA2 hR2 hP2 hbb2
  go_loopg [6,7,9] 7 (fun (gk:Nat) vc vb vi wr=>∃(k:Nat) (o:List Int) (cy bw:Int),k+gk=7/\vi=.int .i64 k/\vc=.int .u64 cy/\vb=.int .u64 bw/\0<=cy/\cy<=18446744073709551615/\0<=bw/\bw<=1/\Keep (Words o/\o.length=k/\num o+wp k * -(cy+bw)=low a k-low pL k*q)/\Has wr w.heap.size 141 (vals .u64 a)/\Has wr (w.heap.size+1) 141 (vals .u64 Z7)/\Has wr w1.heap.size 24 (vals .u64 pL)/\Has wr w2.heap.size 141 (vals .u64 (padTo 7 o))/\Below w.heap.size w wr)
  case atStart=>exact⟨0,[],0,0,rfl,rfl,rfl,rfl,by omega,by omega,by omega,by omega,⟨words_nil,rfl,by simp[num_nil,low_zero]⟩,hA3,hR3,hP3,hO3,hb3⟩
  case round=>
    clear hA3 hR3 hP3 hO3 hb3
    obtain⟨k,o,cy,bw,hk,rfl,rfl,rfl,hc0,hc1,hbw0,hbw1,hI,hA,hR,hP,hO,hb⟩:=hrel
    by_cases hlt:k<7
    · obtain⟨m,rfl⟩:∃m,gk=m+1:=⟨gk-1,by omega⟩
      obtain⟨x,hx⟩:∃x,nth a k=x:=⟨_,rfl⟩
      obtain⟨p,hp⟩:∃p,nth pL k=p:=⟨_,rfl⟩
      have bx:0<=x/\x<=18446744073709551615:=hx▸AW.out k
      have bp:0<=p/\p<=18446744073709551615:=hp▸pL_words k
      have ar:=less_arith (x:=x) (bw:=bw) bp.1 bp.2 hq0 hq1 hc0 hc1
      have c0:wr.cell? ⟨w.heap.size,k,none⟩=some (.int .u64 x):=by rw[<-hx];exact hA.val (by rw[AL.out];exact hlt)
      obtain⟨s,hs⟩:∃s,(p*q+cy)%18446744073709551616=s:=⟨_,rfl⟩
      obtain⟨c',hc'⟩:∃c',(p*q+cy)/18446744073709551616=c':=⟨_,rfl⟩
      have bs:0<=s/\s<=18446744073709551615:=by omega
      have hsub:=subc_run x s bw bx.1 bs.1 bs.2 hbw0 hbw1
      obtain⟨d,hd⟩:∃d,(x-s-bw)%18446744073709551616=d:=⟨_,rfl⟩
      obtain⟨b',hb'⟩:∃b',(if x<s+bw then (1:Int) else 0)=b':=⟨_,rfl⟩
      rw[hd,hb'] at hsub
      have hst:d-18446744073709551616*b'=x-s-bw/\0<=d/\d<=18446744073709551615/\0<=b'/\b'<=1:=by
        rw[<-hd,<-hb']
        by_cases h:x<s+bw
        · rw[if_pos h];omega
        · rw[if_neg h];omega
      have hst0:s+18446744073709551616*c'=p*q+cy:=by rw[<-hs,<-hc'];omega
      have HS:Keep (Words (o++[d])/\(o++[d]).length=k+1/\num (o++[d])+wp (k+1) * -(c'+b')=low a (k+1)-low pL (k+1)*q):=⟨words_append hI.out.1 (words_one hst.2.1 hst.2.2.1),by rw[List.length_append,hI.out.2.1];rfl,less_step hI.out.2.1 hx hp hI.out.2.2 hst0 hst.1⟩
      have bc':0<=c'/\c'<=18446744073709551615:=by rw[<-hc'];exact ar.2.2
      have bb':0<=b'/\b'<=1:=hst.2.2.2
      have co:=hO.val (i:=k) (by rw[padTo_len (by rw[hI.out.2.1];omega)];exact hlt)
      have zo:=hO.frozen k
      have hO7:=hO.set_ k (.int .u64 d)
      rw[vals_set,padTo_set' hI.out.2.1 hlt] at hO7
      have hA7:=hA.far (p:=⟨w2.heap.size,k,none⟩) (by show w.heap.size≠w2.heap.size;omega) (.int .u64 d)
      have hR7:=hR.far (p:=⟨w2.heap.size,k,none⟩) (by show w.heap.size+1≠w2.heap.size;omega) (.int .u64 d)
      have hP7:=hP.far (p:=⟨w2.heap.size,k,none⟩) (by show w1.heap.size≠w2.heap.size;omega) (.int .u64 d)
      have hb7:=hb.setCell (p:=⟨w2.heap.size,k,none⟩) (by show w.heap.size<=w2.heap.size;omega) (.int .u64 d)
      rcases Nat.lt_or_ge k 6 with h6|h6
      · have p0:wr.cell? ⟨w1.heap.size,k,none⟩=some (.int .u64 p):=by rw[<-hp];exact hP.val (show k<pL.length from h6)
        obtain⟨hi,hhi⟩:∃z,p*q/18446744073709551616=z:=⟨_,rfl⟩
        obtain⟨lo,hlo⟩:∃z,p*q%18446744073709551616=z:=⟨_,rfl⟩
        have blo:0<=lo/\lo<=18446744073709551615:=by omega
        have hadd:=addc_run lo cy 0 blo.1 hc0 (by omega) (by omega)
        rw[Int.add_zero] at hadd
        rw[hhi,hlo] at ar
        rw[ar.2.1,hs] at hadd
        obtain⟨ov,hov⟩:∃z,(lo+cy)/18446744073709551616=z:=⟨_,rfl⟩
        rw[hov] at hadd
        have hcc:IntKind.u64.wrap (hi+ov)=c':=by rw[<-hov,ar.1,hc',IntKind.wrap_u64];omega
        have MU:Keep (∀w:World,Calls Tryz.prog 129 #[.int .u64 p,.int .u64 q] w fun e w'=>e=.returned (.tuple #[.int .u64 hi,.int .u64 lo])/\w=w'):=⟨fun w=>by rw[<-hhi,<-hlo];exact mul64_c p q bp.1 bp.2 hq0 hq1 w⟩
        clear hs hc' hd hb' hhi hlo hov ar hst hst0 hx hp bx bp bs blo hA hR hP hO hb
        go_wp2_with (go_at_call 129;refine (MU.out _).mono ?_;rintro e w' ⟨rfl,rfl⟩)
        go_roundg m
        case measure=>omega
        case rel=>exact⟨k+1,o++[d],c',b',by omega,by go_num,rfl,rfl,bc'.1,bc'.2,bb'.1,bb'.2,HS,hA7,hR7,hP7,hO7,hb7⟩
      · obtain rfl:6=k:=by omega
        have p0:p=0:=by rw[<-hp];rfl
        have hadd:=addc_run 0 cy 0 (by omega) hc0 (by omega) (by omega)
        rw[Int.add_zero,Int.zero_add] at hadd
        have e1:cy%18446744073709551616=s:=by rw[<-hs,p0,Int.zero_mul,Int.zero_add]
        have e2:cy/18446744073709551616=c':=by rw[<-hc',p0,Int.zero_mul,Int.zero_add]
        rw[e1,e2] at hadd
        have hcc:IntKind.u64.wrap c'=c':=by rw[IntKind.wrap_u64];omega
        clear hs hc' hd hb' e1 e2 ar hst hst0 hx hp bx bp bs hA hR hP hO hb p0
        go_wp2
        go_roundg m
        case measure=>omega
        case rel=>exact⟨7,o++[d],c',b',by omega,by go_num,rfl,rfl,bc'.1,bc'.2,bb'.1,bb'.2,HS,hA7,hR7,hP7,hO7,hb7⟩
    · obtain rfl:7=k:=by omega
      have he:=hI.out.2.2
      rw[low_num (by rw[AL.out];omega),low_num (show pL.length<=7 by rw[pL_len];omega),num_pL] at he
      have hfin:=(wd_of hI.out.1 hI.out.2.1 he).1
      rw[padTo_full hI.out.2.1] at hO
      have OL:Keep (o.length=7):=⟨hI.out.2.1⟩
      have FIN:Keep _:=⟨hfin⟩
      clear he hfin
      go_wp2_with (first
        | (refine wpList_load_row rfl 141 (.tmp 8) rfl w2.heap.size rfl _ _ _ _ hO.eq Tryz.underlying141 rfl (by rw[vals_size,OL.out];kernel_rfl) ?_)
        | (refine wpList_store_rowTo rfl 141 (.tmp 4) (.tmp 57) rfl rfl (w.heap.size+1) (vals .u64 o) rfl rfl _ _ hR.eq (by rw[vals_size,OL.out];kernel_rfl) (by rw[vals_size,vals_size,OL.out];rfl) vals_one ?_))
      refine bodyPost_ret (v:=.agg (vals .u64 o)) (results_cell_row rfl _ _ (w.heap.size+1) _ _ _ _ rfl (hR.row _).eq Tryz.underlying141 rfl (by rw[vals_size,OL.out];kernel_rfl)) rfl ⟨ret_eq (by rw[FIN.out]),below_row hb (by omega) _⟩
end Fp
namespace Fp
open Go Go.RowKit Reg Base Limb Bits
theorem six {l:List Int}(h:l.length=6):∃a b c d e f,l=[a,b,c,d,e,f]:=by
 match l,h with
 |[a,b,c,d,e,f],_=>exact⟨a,b,c,d,e,f,rfl⟩
theorem seven {l:List Int}(h:l.length=7):∃a b c d e f g,l=[a,b,c,d,e,f,g]:=by
 match l,h with
 |[a,b,c,d,e,f,g],_=>exact⟨a,b,c,d,e,f,g,rfl⟩
theorem num_six (a b c d e f:Int):num [a,b,c,d,e,f]=a+18446744073709551616*b+0x100000000000000000000000000000000*c+0x1000000000000000000000000000000000000000000000000*d+0x10000000000000000000000000000000000000000000000000000000000000000*e+0x100000000000000000000000000000000000000000000000000000000000000000000000000000000*f:=by
 simp[num,low,nth,wp]
theorem num_seven (a b c d e f g:Int):num [a,b,c,d,e,f,g]=num [a,b,c,d,e,f]+0x1000000000000000000000000000000000000000000000000000000000000000000000000000000000000000000000000*g:=by
 simp[num,low,nth,wp]
theorem num_cons6 (x a b c d e f:Int):num [x,a,b,c,d,e,f]=x+18446744073709551616*num [a,b,c,d,e,f]:=by
 simp[num,low,nth,wp];omega
theorem PP_lit:PP=0x1a0111ea397fe69a4b1ba7b6434bacd764774b84f38512bf6730d2a0f6b0f6241eabfffeb153ffffb9feffffffffaaab:=rfl
theorem word_six {a b c d e f:Int}(h:Words [a,b,c,d,e,f]):(0<=a/\a<=18446744073709551615)/\(0<=b/\b<=18446744073709551615)/\(0<=c/\c<=18446744073709551615)/\(0<=d/\d<=18446744073709551615)/\(0<=e/\e<=18446744073709551615)/\(0<=f/\f<=18446744073709551615):=⟨h 0,h 1,h 2,h 3,h 4,h 5⟩
theorem words_seven {x a b c d e f:Int}(hx0:0<=x)(hx1:x<=18446744073709551615)(h:Words [a,b,c,d,e,f]):Words [x,a,b,c,d,e,f]:=words_append (l:=[x]) (words_one hx0 hx1) h
theorem words_first {a b c d e f g:Int}(h:Words [a,b,c,d,e,f,g]):Words [a,b,c,d,e,f]:=words_take h 6
set_option maxHeartbeats 4000000 in
theorem refNext_c (a:List Int)(hl:a.length=6)(hw:Words a)(hlt:num a<PP)(x:Int)(hx0:0<=x)(hx1:x<=18446744073709551615)(w:World):Calls Tryz.prog 131 #[.agg (vals .u64 a),.int .u64 x] w fun e w'=>e=.returned (.agg (vals .u64 (fe (18446744073709551616*num a+x))))/\Below w.heap.size w w':=by
  obtain⟨a0,a1,a2,a3,a4,a5,rfl⟩:=six hl
  obtain⟨b0,b1,b2,b3,b4,b5⟩:=word_six hw
  have hn:=num_six a0 a1 a2 a3 a4 a5
  have h5:a5<1873798617647539867:=by rw[hn,PP_lit] at hlt;omega
  obtain⟨q,hq⟩:∃q,(a5*18446744073709551616+a4)/1873798617647539867=q:=⟨_,rfl⟩
  have hq0:0<=q/\q<=18446744073709551615:=by omega
  have hT:=num_cons6 x a0 a1 a2 a3 a4 a5
  have hT0:0<=num [x,a0,a1,a2,a3,a4,a5]-PP*q/\num [x,a0,a1,a2,a3,a4,a5]-PP*q<wp 7:=by
    rw[hT,hn,PP_lit,show wp 7=0x10000000000000000000000000000000000000000000000000000000000000000000000000000000000000000000000000000000000000000 from rfl]
    omega
  have TW:Keep (Words [x,a0,a1,a2,a3,a4,a5]):=⟨words_seven hx0 hx1 hw⟩
  have DV:Keep (∀w:World,Calls Tryz.prog 155 #[.int .u64 a5,.int .u64 a4,.int .u64 1873798617647539867] w fun e w'=>e=.returned (.tuple #[.int .u64 q,.int .u64 ((a5*18446744073709551616+a4)%1873798617647539867)])/\Below w.heap.size w w'):=⟨fun w=>by rw[<-hq];exact div64_c a5 a4 b5.1 h5 b4.1 b4.2 w⟩
  have N1:Keep (num (wd 7 (num [x,a0,a1,a2,a3,a4,a5]-PP*q))=num [x,a0,a1,a2,a3,a4,a5]-PP*q):=⟨num_wd_of hT0.1 hT0.2⟩
  obtain⟨t,ht⟩:∃t,wd 7 (num [x,a0,a1,a2,a3,a4,a5]-PP*q)=t:=⟨_,rfl⟩
  have HT:Keep _:=⟨ht⟩
  have HT1:Keep (t.length=7/\Words t/\fe (num t)=fe (18446744073709551616*num [a0,a1,a2,a3,a4,a5]+x)):=⟨ht▸wd_len _ _,ht▸wd_words _ _,by
    rw[<-ht,N1.out,hT]
    exact fe_congr (by rw[Int.sub_mul_emod_self_left,Int.add_comm])⟩
  obtain⟨n0,hn0⟩:∃n0:Nat,num t<=n0:=⟨(num t).toNat,by omega⟩
  have HN0:Keep _:=⟨hn0⟩
  have HQ0:Keep _:=⟨hq0⟩
  clear hq hT hT0 hn hw hlt hl ht b0 b1 b2 b3 b4 b5 h5 hn0 hq0
  have hA0:Has ((w.alloc (.cells (vals .u64 [a0,a1,a2,a3,a4,a5]) 24)).alloc (.cells (vals .u64 Z6) 24)) w.heap.size 24 (vals .u64 [a0,a1,a2,a3,a4,a5]):=(Has.new _ _ _).alloc _
  have hR0:Has ((w.alloc (.cells (vals .u64 [a0,a1,a2,a3,a4,a5]) 24)).alloc (.cells (vals .u64 Z6) 24)) (w.heap.size+1) 24 (vals .u64 Z6):=Has.new' _ (by simp) _ _
  have hb0:Below w.heap.size w ((w.alloc (.cells (vals .u64 [a0,a1,a2,a3,a4,a5]) 24)).alloc (.cells (vals .u64 Z6) 24)):=((Below.refl _ _).alloc (Nat.le_refl _) _).alloc (by simp) _
  go_enter Tryz.func131,Tryz.ntmps131
  go_wp2_with (first
    | (go_at_call 134
       refine (refP_c _).mono ?_
       rintro e w1 ⟨rfl,hb1⟩
       have hA1:=hA0.keep hb1
       have hR1:=hR0.keep hb1
       have hbb1:=hb0.trans (hb1.mono hb0.size)
       clear hA0 hR0 hb0 hb1)
    | (refine store_abs2 (by rfl) 24 (.tmp 5) (.tmp 9) (by rfl) (by rfl) w1.heap.size (vals .u64 pL) (by rfl) (by rfl) 24 (vals .u64 Z6) (Has.new' _ rfl _ _) (by kernel_rfl) (by rfl) vals_one ?_
       intro w2 hP2 hkeep hbg
       have hbe:=((Below.refl w1.heap.size w1).alloc (Nat.le_refl _) (.cells (vals .u64 Z6) 24)).trans hbg
       have hA2:=hA1.keep hbe
       have hR2:=hR1.keep hbe
       have hbb2:=hbb1.trans (hbe.mono hbb1.size)
       have c0:w2.cell? ⟨w.heap.size,0,none⟩=some (.int .u64 a0):=hA2.cell 0
       have c1:w2.cell? ⟨w.heap.size,1,none⟩=some (.int .u64 a1):=hA2.cell 1
       have c2:w2.cell? ⟨w.heap.size,2,none⟩=some (.int .u64 a2):=hA2.cell 2
       have c3:w2.cell? ⟨w.heap.size,3,none⟩=some (.int .u64 a3):=hA2.cell 3
       have c4:w2.cell? ⟨w.heap.size,4,none⟩=some (.int .u64 a4):=hA2.cell 4
       have c5:w2.cell? ⟨w.heap.size,5,none⟩=some (.int .u64 a5):=hA2.cell 5
       clear hkeep hbg hbe hA1 hR1 hbb1)
    | (refine wpList_buildTo (by rfl) 141 #[(0,.tmp 10),(1,.tmp 12),(2,.tmp 14),(3,.tmp 16),(4,.tmp 18),(5,.tmp 20),(6,.tmp 22)] (by rfl) (some 23) (by rfl) (vals .u64 [x,a0,a1,a2,a3,a4,a5]) (by kernel_rfl) ?_)
    | (refine store_abs2 (by rfl) 141 (.tmp 6) (.tmp 23) (by rfl) (by rfl) w2.heap.size (vals .u64 [x,a0,a1,a2,a3,a4,a5]) (by rfl) (by rfl) 141 (vals .u64 Z7) (Has.new' _ rfl _ _) (by kernel_rfl) (by rfl) vals_one ?_
       intro w3 hT3 hkeep hbg
       have hbe:=((Below.refl w2.heap.size w2).alloc (Nat.le_refl _) (.cells (vals .u64 Z7) 141)).trans hbg
       have hR3:=hR2.keep hbe
       have hP3:=hP2.keep hbe
       have hbb3:=hbb2.trans (hbe.mono hbb2.size)
       have t6:w3.cell? ⟨w2.heap.size,6,none⟩=some (.int .u64 a5):=hT3.cell 6
       have t5:w3.cell? ⟨w2.heap.size,5,none⟩=some (.int .u64 a4):=hT3.cell 5
       have p5:w3.cell? ⟨w1.heap.size,5,none⟩=some (.int .u64 1873798617647539866):=hP3.cell 5
       have hg2:w.heap.size+1<w2.heap.size:=hR2.lt
       clear hkeep hbg hbe hA2 hR2 hbb2 c0 c1 c2 c3 c4 c5 hP2)
    | (go_at_call 155
       refine (DV.out _).mono ?_
       rintro e w4 ⟨rfl,hb4⟩
       have hT4:=hT3.keep hb4
       have hR4:=hR3.keep hb4
       have hbb4:=hbb3.trans (hb4.mono hbb3.size)
       clear hT3 hR3 hP3 hbb3 hb4 t6 t5 p5)
    | (refine wpList_load_row rfl 141 (.tmp 6) rfl w2.heap.size rfl _ _ _ _ hT4.eq Tryz.underlying141 rfl (by kernel_rfl) ?_)
    | (go_at_call 156
       refine (refFpLess_c [x,a0,a1,a2,a3,a4,a5] rfl TW.out q HQ0.out.1 HQ0.out.2 _).mono ?_
       rintro e w5 ⟨rfl,hb5⟩
       rw[HT.out]
       have hT5:=hT4.keep hb5
       have hR5:=hR4.keep hb5
       have hbb5:=hbb4.trans (hb5.mono hbb4.size)
       clear hT4 hR4 hbb4 hb5)
    | (refine store_abs (by rfl) 141 (.tmp 6) (.tmp 37) (by rfl) (by rfl) w2.heap.size (vals .u64 t) (by rfl) (by rfl) 141 _ hT5 (by rw[vals_size,HT1.out.1];kernel_rfl) (by rw[vals_size,vals_size,HT1.out.1];rfl) vals_one w.heap.size w hbb5 (by omega) ?_
       intro w6 hT6 hkeep hb6
       have hR6:=hkeep _ _ _ hR5 (by omega)
       clear hkeep hR5 hT5 hbb5))
  go_loopg [] n0 (fun (gk:Nat) wr=>∃u:List Int,Keep (u.length=7/\Words u/\fe (num u)=fe (18446744073709551616*num [a0,a1,a2,a3,a4,a5]+x)/\num u<=gk)/\Has wr w2.heap.size 141 (vals .u64 u)/\Has wr (w.heap.size+1) 24 (vals .u64 Z6)/\Below w.heap.size w wr)
  case atStart=>exact⟨t,⟨HT1.out.1,HT1.out.2.1,HT1.out.2.2,HN0.out⟩,hT6,hR6,hb6⟩
  case round=>
    clear hT6 hR6 hb6
    obtain⟨u,HU,hT,hR,hb⟩:=hrel
    obtain⟨u0,u1,u2,u3,u4,u5,u6,rfl⟩:=seven HU.out.1
    have bu:=HU.out.2.1 6
    have bu6:0<=u6:=bu.1
    have e6:wr.cell? ⟨w2.heap.size,6,none⟩=some (.int .u64 u6):=hT.cell 6
    have hns:=num_seven u0 u1 u2 u3 u4 u5 u6
    have hnb:=num_bounds (words_first HU.out.2.1)
    have hn7:=num_bounds HU.out.2.1
    rcases Int.lt_or_le 0 u6 with h6|h6
    · have hn:0<=num [u0,u1,u2,u3,u4,u5,u6]-PP*1/\num [u0,u1,u2,u3,u4,u5,u6]-PP*1<wp 7:=by
        have h1:num [u0,u1,u2,u3,u4,u5,u6]<wp 7:=hn7.2
        rw[hns,PP_lit] at *
        omega
      have hgk:gk≠0:=by
        intro h0
        have:=HU.out.2.2.2
        rw[h0] at this
        have:=PP_pos
        omega
      obtain⟨m,rfl⟩:∃m,gk=m+1:=⟨gk-1,by omega⟩
      have HV:Keep ((wd 7 (num [u0,u1,u2,u3,u4,u5,u6]-PP*1)).length=7/\Words (wd 7 (num [u0,u1,u2,u3,u4,u5,u6]-PP*1))/\fe (num (wd 7 (num [u0,u1,u2,u3,u4,u5,u6]-PP*1)))=fe (18446744073709551616*num [a0,a1,a2,a3,a4,a5]+x)/\num (wd 7 (num [u0,u1,u2,u3,u4,u5,u6]-PP*1))<=m):=⟨wd_len _ _,wd_words _ _,by
        rw[num_wd_of hn.1 hn.2,<-HU.out.2.2.1]
        exact fe_congr (Int.sub_mul_emod_self_left _ _ _),by
        rw[num_wd_of hn.1 hn.2]
        have:=HU.out.2.2.2
        have:=PP_pos
        omega⟩
      clear hn hgk hns hnb hn7 bu
      go_wp2_with (first
        | (refine wpList_load_row rfl 141 (.tmp 6) rfl w2.heap.size rfl _ _ _ _ hT.eq Tryz.underlying141 rfl (by kernel_rfl) ?_)
        | (go_at_call 156
           refine (refFpLess_c [u0,u1,u2,u3,u4,u5,u6] rfl HU.out.2.1 1 (by omega) (by omega) _).mono ?_
           rintro e w7 ⟨rfl,hb7⟩
           have hT7:=hT.keep hb7
           have hR7:=hR.keep hb7
           have hbb7:=hb.trans (hb7.mono hb.size)
           clear hT hR hb hb7 e6)
        | (refine store_abs (by rfl) 141 (.tmp 6) (.tmp 42) (by rfl) (by rfl) w2.heap.size (vals .u64 (wd 7 (num [u0,u1,u2,u3,u4,u5,u6]-PP*1))) (by rfl) (by rfl) 141 _ hT7 (by rw[vals_size,HV.out.1];kernel_rfl) (by rw[vals_size,vals_size,HV.out.1];rfl) vals_one w.heap.size w hbb7 (by omega) ?_
           intro w8 hT8 hkeep hb8
           have hR8:=hkeep _ _ _ hR7 (by omega)
           clear hkeep hR7 hT7 hbb7))
      go_roundg m
      case measure=>omega
      case rel=>exact⟨_,HV,hT8,hR8,hb8⟩
    · obtain rfl:0=u6:=by omega
      have e0:wr.cell? ⟨w2.heap.size,0,none⟩=some (.int .u64 u0):=hT.cell 0
      have e1:wr.cell? ⟨w2.heap.size,1,none⟩=some (.int .u64 u1):=hT.cell 1
      have e2:wr.cell? ⟨w2.heap.size,2,none⟩=some (.int .u64 u2):=hT.cell 2
      have e3:wr.cell? ⟨w2.heap.size,3,none⟩=some (.int .u64 u3):=hT.cell 3
      have e4:wr.cell? ⟨w2.heap.size,4,none⟩=some (.int .u64 u4):=hT.cell 4
      have e5:wr.cell? ⟨w2.heap.size,5,none⟩=some (.int .u64 u5):=hT.cell 5
      have FIN:Keep (fe (num [u0,u1,u2,u3,u4,u5])=fe (18446744073709551616*num [a0,a1,a2,a3,a4,a5]+x)):=⟨by rw[<-HU.out.2.2.1,hns,Int.mul_zero,Int.add_zero]⟩
      have UW:Keep (Words [u0,u1,u2,u3,u4,u5]):=⟨words_first HU.out.2.1⟩
      clear hns hnb hn7 bu bu6 h6
      go_wp2_with (first
        | (refine wpList_buildTo (by rfl) 24 #[(0,.tmp 44),(1,.tmp 46),(2,.tmp 48),(3,.tmp 50),(4,.tmp 52),(5,.tmp 54)] (by rfl) (some 55) (by rfl) (vals .u64 [u0,u1,u2,u3,u4,u5]) (by kernel_rfl) ?_)
        | (go_at_call 83
           refine (refReduce_c [u0,u1,u2,u3,u4,u5] rfl UW.out _).mono ?_
           rintro e w8 ⟨rfl,hb8⟩
           rw[FIN.out]
           have hR8:=hR.keep hb8
           have hbb8:=hb.trans (hb8.mono hb.size)
           clear hb8 hR hb hT e0 e1 e2 e3 e4 e5 e6)
        | (refine wpList_store_rowTo (by rfl) 24 (.tmp 4) (.tmp 56) (by rfl) (by rfl) (w.heap.size+1) (vals .u64 (fe (18446744073709551616*num [a0,a1,a2,a3,a4,a5]+x))) (by rfl) (by rfl) _ _ hR8.eq (by rw[vals_size,fe_len];kernel_rfl) (by rw[vals_size,vals_size,fe_len];rfl) vals_one ?_))
      refine bodyPost_ret (v:=.agg (vals .u64 (fe (18446744073709551616*num [a0,a1,a2,a3,a4,a5]+x)))) (results_cell_row rfl _ _ (w.heap.size+1) _ _ _ _ rfl (hR8.row _).eq Tryz.underlying24 rfl (by rw[vals_size,fe_len];kernel_rfl)) rfl ⟨rfl,below_row hbb8 (by omega) _⟩
end Fp
namespace Fp
open Go Go.RowKit Reg Base Limb Bits
theorem fe_zero:fe 0=Z6:=by decide +kernel
theorem fe_next {v x u:Int}(h:u=x+18446744073709551616*v):fe (18446744073709551616*num (fe v)+x)=fe u:=fe_congr (by
 rw[h,num_fe,Int.add_emod,Int.mul_emod,Int.emod_emod,<-Int.mul_emod,<-Int.add_emod,Int.add_comm])
theorem fe_less (v:Int):num (fe v)<PP:=by rw[num_fe];exact (fe_mod v).2
end Fp
namespace Fp
open Go Go.RowKit Reg Base Limb Bits
def Z12:List Int:=[0,0,0,0,0,0,0,0,0,0,0,0]
theorem word_arith {x y cy t:Int}(hx0:0<=x)(hx1:x<=18446744073709551615)(hy0:0<=y)(hy1:y<=18446744073709551615)(hc0:0<=cy)(hc1:cy<=18446744073709551615)(ht0:0<=t)(ht1:t<=18446744073709551615) :
  x*y/18446744073709551616+(x*y%18446744073709551616+cy)/18446744073709551616<=18446744073709551615/\(t+(x*y%18446744073709551616+cy)%18446744073709551616)%18446744073709551616=(x*y+cy+t)%18446744073709551616 /\
  x*y/18446744073709551616+(x*y%18446744073709551616+cy)/18446744073709551616+(t+(x*y%18446744073709551616+cy)%18446744073709551616)/18446744073709551616=(x*y+cy+t)/18446744073709551616/\0<=(x*y+cy+t)/18446744073709551616/\(x*y+cy+t)/18446744073709551616<=18446744073709551615/\0<=x*y/18446744073709551616:=by
 have h1:0<=x*y:=Int.mul_nonneg hx0 hy0
 have h2:x*y<=18446744073709551615*18446744073709551615:=Int.mul_le_mul hx1 hy1 hy0 (by omega)
 generalize x*y=m at *
 omega
theorem mul_step_ {T T0 y:List Int}{i k:Nat}{c c' d x t p:Int}(hI:num T+wp (i+k)*c=num T0+wp i*(x*low y k))(hd:num (T.set (i+k) d)=num T+wp (i+k)*(d-t))(hp:nth y k=p)(hw:d+18446744073709551616*c'=x*p+c+t) :
  num (T.set (i+k) d)+wp (i+(k+1))*c'=num T0+wp i*(x*low y (k+1)):=by
 rw[hd,low_succ,hp,show i+(k+1)=i+k+1 by omega,wp_succ,wp_add] at *
 grind
set_option maxHeartbeats 8000000 in
theorem refFpMul_c (a b:List Int)(hl:a.length=6)(hw:Words a)(hl':b.length=6)(hw':Words b)(w:World):Calls Tryz.prog 81 #[.agg (vals .u64 a),.agg (vals .u64 b)] w fun e w'=>e=.returned (.agg (vals .u64 (fe (num a*num b))))/\Below w.heap.size w w':=by
  have AL:Keep _:=⟨hl⟩
  have AW:Keep _:=⟨hw⟩
  have BL:Keep _:=⟨hl'⟩
  have BW:Keep _:=⟨hw'⟩
  clear hl hw hl' hw'
  obtain⟨x,hx⟩:∃x,fe (num a)=x:=⟨_,rfl⟩
  obtain⟨y,hy⟩:∃y,fe (num b)=y:=⟨_,rfl⟩
  have XL:Keep (x.length=6/\Words x/\num x=num a%PP):=⟨hx▸fe_len _,hx▸fe_words _,by rw[<-hx,num_fe]⟩
  have YL:Keep (y.length=6/\Words y/\num y=num b%PP):=⟨hy▸fe_len _,hy▸fe_words _,by rw[<-hy,num_fe]⟩
  have HX:Keep _:=⟨hx⟩
  have HY:Keep _:=⟨hy⟩
  clear hx hy
  have hA0:Has (((w.alloc (.cells (vals .u64 a) 24)).alloc (.cells (vals .u64 b) 24)).alloc (.cells (vals .u64 Z6) 24)) w.heap.size 24 (vals .u64 a):=((Has.new _ _ _).alloc _).alloc _
  have hB0:Has (((w.alloc (.cells (vals .u64 a) 24)).alloc (.cells (vals .u64 b) 24)).alloc (.cells (vals .u64 Z6) 24)) (w.heap.size+1) 24 (vals .u64 b):=(Has.new' _ (by simp) _ _).alloc _
  have hR0:Has (((w.alloc (.cells (vals .u64 a) 24)).alloc (.cells (vals .u64 b) 24)).alloc (.cells (vals .u64 Z6) 24)) (w.heap.size+1+1) 24 (vals .u64 Z6):=Has.new' _ (by simp) _ _
  have hb0:Below w.heap.size w (((w.alloc (.cells (vals .u64 a) 24)).alloc (.cells (vals .u64 b) 24)).alloc (.cells (vals .u64 Z6) 24)):=(((Below.refl _ _).alloc (Nat.le_refl _) _).alloc (by simp) _).alloc (by simp<;>omega) _
  go_enter Tryz.func81,Tryz.ntmps81
  go_wp2_with (first
    | (refine wpList_load_row rfl 24 (.tmp 2) rfl w.heap.size rfl _ _ _ _ hA0.eq Tryz.underlying24 rfl (by rw[vals_size,AL.out];kernel_rfl) ?_)
    | (refine wpList_load_row rfl 24 (.tmp 3) rfl (w.heap.size+1) rfl _ _ _ _ hB2.eq Tryz.underlying24 rfl (by rw[vals_size,BL.out];kernel_rfl) ?_)
    | (have q1:=f1;go_at_call 83
       refine (refReduce_c b BL.out BW.out _).mono ?_
       rintro e w3 ⟨rfl,hb3⟩
       rw[HY.out]
       have hR3:=hR2.keep hb3
       have hX3:=hX2.keep hb3
       have hbb3:=hbb2.trans (hb3.mono hbb2.size)
       clear hR2 hX2 hbb2 hb3 hB2 q1 f1)
    | (go_at_call 83
       refine (refReduce_c a AL.out AW.out _).mono ?_
       rintro e w1 ⟨rfl,hb1⟩
       rw[HX.out]
       have hB1:=hB0.keep hb1
       have hR1:=hR0.keep hb1
       have hbb1:=hb0.trans (hb1.mono hb0.size)
       clear hA0 hB0 hR0 hb0 hb1
       have f1:=True.intro)
    | (refine store_abs2 (by rfl) 24 (.tmp 5) (.tmp 20) (by rfl) (by rfl) w1.heap.size (vals .u64 x) (by rfl) (by rfl) 24 (vals .u64 Z6) (Has.new' _ rfl _ _) (by rw[vals_size,XL.out.1];kernel_rfl) (by rw[vals_size,vals_size,XL.out.1];rfl) vals_one ?_
       intro w2 hX2 hkeep hbg
       have hbe:=((Below.refl w1.heap.size w1).alloc (Nat.le_refl _) (.cells (vals .u64 Z6) 24)).trans hbg
       have hB2:=hB1.keep hbe
       have hR2:=hR1.keep hbe
       have hbb2:=hbb1.trans (hbe.mono hbb1.size)
       have hg12:w.heap.size+1+1<w1.heap.size:=hR1.lt
       clear hkeep hbg hbe hB1 hR1 hbb1)
    | (refine store_abs2 (by rfl) 24 (.tmp 6) (.tmp 22) (by rfl) (by rfl) w3.heap.size (vals .u64 y) (by rfl) (by rfl) 24 (vals .u64 Z6) (Has.new' _ rfl _ _) (by rw[vals_size,YL.out.1];kernel_rfl) (by rw[vals_size,vals_size,YL.out.1];rfl) vals_one ?_
       intro w4 hY4 hkeep hbg
       have hbe:=((Below.refl w3.heap.size w3).alloc (Nat.le_refl _) (.cells (vals .u64 Z6) 24)).trans hbg
       have hX4:=hX3.keep hbe
       have hR4:=hR3.keep hbe
       have hbb4:=hbb3.trans (hbe.mono hbb3.size)
       have hg34:w1.heap.size<w3.heap.size:=hX3.lt
       clear hkeep hbg hbe hX3 hR3 hbb3))
  have hg4:w3.heap.size<w4.heap.size:=hY4.lt
  have hT5:Has (w4.alloc (.cells (vals .u64 Z12) 115)) w4.heap.size 115 (vals .u64 Z12):=Has.new _ _ _
  have hX5:=hX4.alloc (.cells (vals .u64 Z12) 115)
  have hY5:=hY4.alloc (.cells (vals .u64 Z12) 115)
  have hR5:=hR4.alloc (.cells (vals .u64 Z12) 115)
  have hb5:=hbb4.alloc hbb4.size (.cells (vals .u64 Z12) 115)
  clear hX4 hY4 hR4 hbb4
  go_loopg [8] 6 (fun (gk:Nat) vi wr=>∃(i:Nat) (T:List Int),i+gk=6/\vi=.int .i64 i/\Keep (Words T/\T.length=12/\num T=low x i*num y/\(∀j,i+6<=j->nth T j=0))/\Has wr (w.heap.size+1+1) 24 (vals .u64 Z6)/\Has wr w1.heap.size 24 (vals .u64 x)/\Has wr w3.heap.size 24 (vals .u64 y)/\Has wr w4.heap.size 115 (vals .u64 T)/\Below w.heap.size w wr)
  case atStart=>exact⟨0,Z12,rfl,rfl,⟨words_zeros 12,rfl,by rw[low_zero,Int.zero_mul];exact num_zeros 12,fun j hj=>by show nth (List.replicate 12 0) j=0;simp only[nth,List.getD_eq_getElem?_getD,List.getElem?_replicate];split<;>rfl⟩,hR5,hX5,hY5,hT5,hb5⟩
  case round=>
    clear hT5 hX5 hY5 hR5 hb5
    obtain⟨i,T,hk,rfl,hI,hR,hX,hY,hT,hb⟩:=hrel
    by_cases hlt:i<6
    · obtain⟨m,rfl⟩:∃m,gk=m+1:=⟨gk-1,by omega⟩
      obtain⟨xi,hxi⟩:∃xi,nth x i=xi:=⟨_,rfl⟩
      have bxi:0<=xi/\xi<=18446744073709551615:=hxi▸XL.out.2.1 i
      have HXI:Keep _:=⟨hxi⟩
      generalize wr=w5 at *
      clear hxi
      go_wp2
      go_loopg [9,10] 6 (fun (gk2:Nat) vc vk wr2=>∃(k:Nat) (S:List Int) (c:Int),k+gk2=6/\vk=.int .i64 k/\vc=.int .u64 c/\0<=c/\c<=18446744073709551615/\Keep (Words S/\S.length=12/\num S+wp (i+k)*c=num T+wp i*(xi*low y k)/\(∀j,i+6<=j->nth S j=0))/\Has wr2 (w.heap.size+1+1) 24 (vals .u64 Z6)/\Has wr2 w1.heap.size 24 (vals .u64 x)/\Has wr2 w3.heap.size 24 (vals .u64 y)/\Has wr2 w4.heap.size 115 (vals .u64 S)/\Below w.heap.size w wr2)
      case atStart=>exact⟨0,T,0,rfl,rfl,rfl,by omega,by omega,⟨hI.out.1,hI.out.2.1,by rw[low_zero,Int.mul_zero,Int.mul_zero,Int.mul_zero],hI.out.2.2.2⟩,hR,hX,hY,hT,hb⟩
      case round=>
        clear hR hX hY hT hb
        obtain⟨k,S,c,hk2,rfl,rfl,hc0,hc1,hJ,hR,hX,hY,hS,hb⟩:=hrel
        by_cases hlt2:k<6
        · obtain⟨m2,rfl⟩:∃m,gk=m+1:=⟨gk-1,by omega⟩
          obtain⟨p,hp⟩:∃p,nth y k=p:=⟨_,rfl⟩
          obtain⟨t,ht⟩:∃t,nth S (i+k)=t:=⟨_,rfl⟩
          have bp:0<=p/\p<=18446744073709551615:=hp▸YL.out.2.1 k
          have bt:0<=t/\t<=18446744073709551615:=ht▸hJ.out.1 (i+k)
          have ar:=word_arith bxi.1 bxi.2 bp.1 bp.2 hc0 hc1 bt.1 bt.2
          have Q0:Keep (∀w',Below wr.heap.size wr w'->w'.cell? ⟨w1.heap.size,i,none⟩=some (.int .u64 xi)):=⟨fun w' hb'=>by rw[<-HXI.out];exact (hX.keep hb').val (by rw[XL.out.1];exact hlt)⟩
          have Q1:Keep (∀w',Below wr.heap.size wr w'->w'.cell? ⟨w3.heap.size,k,none⟩=some (.int .u64 p)):=⟨fun w' hb'=>by rw[<-hp];exact (hY.keep hb').val (by rw[YL.out.1];exact hlt2)⟩
          obtain⟨hi,hhi⟩:∃z,xi*p/18446744073709551616=z:=⟨_,rfl⟩
          obtain⟨lo,hlo⟩:∃z,xi*p%18446744073709551616=z:=⟨_,rfl⟩
          have MU:Keep (∀w:World,Calls Tryz.prog 129 #[.int .u64 xi,.int .u64 p] w fun e w'=>e=.returned (.tuple #[.int .u64 hi,.int .u64 lo])/\Below w.heap.size w w'):=⟨fun w=>by
            rw[<-hhi,<-hlo]
            refine (mul64_c xi p bxi.1 bxi.2 bp.1 bp.2 w).mono ?_
            rintro e w' ⟨rfl,rfl⟩
            exact⟨rfl,Below.refl _ _⟩⟩
          rw[hhi,hlo] at ar
          have blo:0<=lo/\lo<=18446744073709551615:=by omega
          obtain⟨s1,hs1⟩:∃z,(lo+c)%18446744073709551616=z:=⟨_,rfl⟩
          obtain⟨o1,ho1⟩:∃z,(lo+c)/18446744073709551616=z:=⟨_,rfl⟩
          obtain⟨d,hd⟩:∃z,(xi*p+c+t)%18446744073709551616=z:=⟨_,rfl⟩
          obtain⟨c',hc'⟩:∃z,(xi*p+c+t)/18446744073709551616=z:=⟨_,rfl⟩
          obtain⟨o2,ho2⟩:∃z,(t+s1)/18446744073709551616=z:=⟨_,rfl⟩
          rw[hs1,ho1,hd,hc',ho2] at ar
          have bs1:0<=s1/\s1<=18446744073709551615:=by omega
          have hadd1:=addc_run lo c 0 blo.1 hc0 (by omega) (by omega)
          rw[Int.add_zero,hs1,ho1] at hadd1
          have hadd2:=addc_run t s1 0 bt.1 bs1.1 (by omega) (by omega)
          rw[Int.add_zero,ar.2.1,ho2] at hadd2
          have hw1:IntKind.u64.wrap (hi+o1)=hi+o1:=by rw[IntKind.wrap_u64];omega
          have hw2:IntKind.u64.wrap (hi+o1+o2)=c':=by rw[IntKind.wrap_u64];omega
          have bd:0<=d/\d<=18446744073709551615:=by omega
          have hst:d+18446744073709551616*c'=xi*p+c+t:=by rw[<-hd,<-hc'];omega
          have bc':0<=c'/\c'<=18446744073709551615:=⟨ar.2.2.2.1,ar.2.2.2.2.1⟩
          have hik:i+k<S.length:=by rw[hJ.out.2.1];omega
          have HS:Keep (Words (S.set (i+k) d)/\(S.set (i+k) d).length=12/\num (S.set (i+k) d)+wp (i+(k+1))*c'=num T+wp i*(xi*low y (k+1))/\(∀j,i+6<=j->nth (S.set (i+k) d) j=0)):=⟨words_set hJ.out.1 bd.1 bd.2,by rw[List.length_set];exact hJ.out.2.1,mul_step_ hJ.out.2.2.1 (by rw[num_set d hik,ht]) hp hst,fun j hj=>by rw[nth_set _ _ _ _ hik,if_neg (by omega)];exact hJ.out.2.2.2 j hj⟩
          have Q2:Keep (nth S (i+k)=t):=⟨ht⟩
          have HIK:Keep (i+k<S.length):=⟨hik⟩
          clear hhi hlo hs1 ho1 hd hc' ho2 ar hst ht hp blo bs1 bd bp bt hik
          go_wp2
          refine wp_fam_all (by kernel_rfl) (by kernel_rfl) (fun I hI' fw hf hback=>?_)
          have c0:∀j,(fw j).cell? ⟨w1.heap.size,i,none⟩=some (.int .u64 xi):=fun j=>Q0.out _ (hf j)
          have c1:∀j,(fw j).cell? ⟨w3.heap.size,k,none⟩=some (.int .u64 p):=fun j=>Q1.out _ (hf j)
          repeat (go_big_quiet_step ((go_at_call 129;exact calls_fam hf hback (MU.out _))))
          refine wpQuiet_nil ?_
          intro w6 hb6
          have hX6:=hX.keep hb6
          have hY6:=hY.keep hb6
          have hR6:=hR.keep hb6
          have hS6:=hS.keep hb6
          have hbb6:=hb.trans (hb6.mono hb.size)
          clear c0 c1 hf hback hX hY hR hS hb hb6
          have co:w6.cell? ⟨w4.heap.size,i+k,none⟩=some (.int .u64 t):=by rw[<-Q2.out];exact hS6.val HIK.out
          have zo:=hS6.frozen (i+k)
          have hS7:=hS6.set_ (i+k) (.int .u64 d)
          rw[vals_set] at hS7
          have hX7:=hX6.far (p:=⟨w4.heap.size,i+k,none⟩) (by show w1.heap.size≠w4.heap.size;omega) (.int .u64 d)
          have hY7:=hY6.far (p:=⟨w4.heap.size,i+k,none⟩) (by show w3.heap.size≠w4.heap.size;omega) (.int .u64 d)
          have hR7:=hR6.far (p:=⟨w4.heap.size,i+k,none⟩) (by show w.heap.size+1+1≠w4.heap.size;omega) (.int .u64 d)
          have hb7:=hbb6.setCell (p:=⟨w4.heap.size,i+k,none⟩) (by show w.heap.size<=w4.heap.size;omega) (.int .u64 d)
          clear hX6 hY6 hR6 hS6 hbb6
          go_wp2
          go_roundg m2
          case measure=>omega
          case rel=>exact⟨k+1,S.set (i+k) d,c',by omega,by go_num,rfl,bc'.1,bc'.2,HS,hR7,hX7,hY7,hS7,hb7⟩
        · obtain rfl:6=k:=by omega
          have hi6:i+6<S.length:=by rw[hJ.out.2.1];omega
          have hz:=hJ.out.2.2.2 (i+6) (Nat.le_refl _)
          have HS:Keep (Words (S.set (i+6) c)/\(S.set (i+6) c).length=12/\num (S.set (i+6) c)=low x (i+1)*num y/\(∀j,i+1+6<=j->nth (S.set (i+6) c) j=0)):=⟨words_set hJ.out.1 hc0 hc1,by rw[List.length_set];exact hJ.out.2.1,by
            have h1:=hJ.out.2.2.1
            rw[num_set c hi6,hz,low_succ,HXI.out]
            rw[low_num (by rw[YL.out.1];omega),hI.out.2.2.1] at h1
            grind,fun j hj=>by rw[nth_set _ _ _ _ hi6,if_neg (by omega)];exact hJ.out.2.2.2 j (by omega)⟩
          have co:wr.cell? ⟨w4.heap.size,i+6,none⟩=some (.int .u64 0):=by rw[<-hz];exact hS.val hi6
          have zo:=hS.frozen (i+6)
          have hS7:=hS.set_ (i+6) (.int .u64 c)
          rw[vals_set] at hS7
          have hX7:=hX.far (p:=⟨w4.heap.size,i+6,none⟩) (by show w1.heap.size≠w4.heap.size;omega) (.int .u64 c)
          have hY7:=hY.far (p:=⟨w4.heap.size,i+6,none⟩) (by show w3.heap.size≠w4.heap.size;omega) (.int .u64 c)
          have hR7:=hR.far (p:=⟨w4.heap.size,i+6,none⟩) (by show w.heap.size+1+1≠w4.heap.size;omega) (.int .u64 c)
          have hb7:=hb.setCell (p:=⟨w4.heap.size,i+6,none⟩) (by show w.heap.size<=w4.heap.size;omega) (.int .u64 c)
          clear hX hY hR hS hb hz hi6
          go_wp2
          go_roundg m
          case measure=>omega
          case rel=>exact⟨i+1,S.set (i+6) c,by omega,by go_num,HS,hR7,hX7,hY7,hS7,hb7⟩
    · obtain rfl:6=i:=by omega
      have hN:num T=num x*num y:=by rw[hI.out.2.2.1,low_num (by rw[XL.out.1];omega)]
      have hD:num (T.drop 6)<PP:=by
        have h1:=num_split T 6 (by rw[hI.out.2.1];omega)
        have h2:=low_bounds hI.out.1 6
        have h3:=fe_mod (num a)
        have h4:=fe_mod (num b)
        rw[<-XL.out.2.2] at h3
        rw[<-YL.out.2.2] at h4
        have h5:num x*num y<=num x*wp 6:=Int.mul_le_mul_of_nonneg_left (by have:=PP_lt;omega) h3.1
        have h6:wp 6*num (T.drop 6)<=wp 6*num x:=by rw[Int.mul_comm (wp 6) (num x)];omega
        have h7:=Int.le_of_mul_le_mul_left h6 (wp_pos 6)
        omega
      have hDL:(T.drop 6).length=6:=by rw[List.length_drop,hI.out.2.1]
      have hDW:=words_drop hI.out.1 6
      have hDF:=fe_below hDW hDL hD
      have FIN:Keep (fe (num T)=fe (num a*num b)):=⟨fe_congr (by rw[hN,XL.out.2.2,YL.out.2.2,<-Int.mul_emod])⟩
      obtain⟨u0,u1,u2,u3,u4,u5,hu⟩:=six hDL
      have uc:∀j,j<6->wr.cell? ⟨w4.heap.size,6+j,none⟩=some (.int .u64 (nth (T.drop 6) j)):=fun j hj=>by rw[nth_drop];exact hT.val (by rw[hI.out.2.1];omega)
      rw[hu] at uc
      have e0:wr.cell? ⟨w4.heap.size,6,none⟩=some (.int .u64 u0):=uc 0 (by omega)
      have e1:wr.cell? ⟨w4.heap.size,7,none⟩=some (.int .u64 u1):=uc 1 (by omega)
      have e2:wr.cell? ⟨w4.heap.size,8,none⟩=some (.int .u64 u2):=uc 2 (by omega)
      have e3:wr.cell? ⟨w4.heap.size,9,none⟩=some (.int .u64 u3):=uc 3 (by omega)
      have e4:wr.cell? ⟨w4.heap.size,10,none⟩=some (.int .u64 u4):=uc 4 (by omega)
      have e5:wr.cell? ⟨w4.heap.size,11,none⟩=some (.int .u64 u5):=uc 5 (by omega)
      have UF:Keep ([u0,u1,u2,u3,u4,u5]=fe (num (T.drop 6))):=⟨by rw[<-hu];exact hDF⟩
      clear uc hN hD hDL hDW hDF hu hX hY hlt
      generalize wr=w5 at *
      go_wp2_with (first
        | (refine wpList_buildTo (by rfl) 24 #[(0,.tmp 72),(1,.tmp 74),(2,.tmp 76),(3,.tmp 78),(4,.tmp 80),(5,.tmp 82)] (by rfl) (some 83) (by rfl) (vals .u64 [u0,u1,u2,u3,u4,u5]) (by kernel_rfl) ?_)
        | (refine store_abs2 (by rfl) 24 (.tmp 17) (.tmp 83) (by rfl) (by rfl) w5.heap.size (vals .u64 [u0,u1,u2,u3,u4,u5]) (by rfl) (by rfl) 24 (vals .u64 Z6) (Has.new' _ rfl _ _) (by kernel_rfl) (by rfl) vals_one ?_
           intro w6 hO6 hkeep hbg
           rw[UF.out] at hO6
           have hbe:=((Below.refl w5.heap.size w5).alloc (Nat.le_refl _) (.cells (vals .u64 Z6) 24)).trans hbg
           have hT6:=hT.keep hbe
           have hR6:=hR.keep hbe
           have hbb6:=hb.trans (hbe.mono hb.size)
           have hg5:w4.heap.size<w5.heap.size:=hT.lt
           clear hkeep hbg hbe hR hT hb e0 e1 e2 e3 e4 e5))
      go_loopg [18] 6 (fun (gk3:Nat) vi wr3=>gk3<=6/\vi=.int .i64 ((gk3:Int)-1)/\Has wr3 (w.heap.size+1+1) 24 (vals .u64 Z6)/\Has wr3 w4.heap.size 115 (vals .u64 T)/\Has wr3 w5.heap.size 24 (vals .u64 (fe (num (T.drop gk3))))/\Below w.heap.size w wr3)
      case atStart=>exact⟨Nat.le_refl _,rfl,hR6,hT6,hO6,hbb6⟩
      case round=>
        clear hR6 hT6 hO6 hbb6
        obtain⟨hk3,rfl,hR,hT,hO,hb⟩:=hrel
        rcases gk with _|j
        · obtain⟨o,ho⟩:∃o,fe (num (T.drop 0))=o:=⟨_,rfl⟩
          rw[ho] at hO
          have OL:Keep (o.length=6):=⟨ho▸fe_len _⟩
          have FO:Keep (o=fe (num a*num b)):=⟨by rw[<-ho,List.drop_zero];exact FIN.out⟩
          clear ho
          go_wp2_with (first
            | (refine wpList_load_row rfl 24 (.tmp 17) rfl w5.heap.size rfl _ _ _ _ hO.eq Tryz.underlying24 rfl (by rw[vals_size,OL.out];kernel_rfl) ?_)
            | (refine wpList_store_rowTo rfl 24 (.tmp 4) (.tmp 93) rfl rfl (w.heap.size+1+1) (vals .u64 o) rfl rfl _ _ hR.eq (by rw[vals_size,OL.out];kernel_rfl) (by rw[vals_size,vals_size,OL.out];rfl) vals_one ?_))
          refine bodyPost_ret (v:=.agg (vals .u64 o)) (results_cell_row rfl _ _ (w.heap.size+1+1) _ _ _ _ rfl (hR.row _).eq Tryz.underlying24 rfl (by rw[vals_size,OL.out];kernel_rfl)) rfl ⟨ret_eq (by rw[FO.out]),below_row hb (by omega) _⟩
        · have e1:((j+1:Nat):Int)-1=(j:Int):=by omega
          rw[e1]
          clear e1
          obtain⟨v,hv⟩:∃v,nth T j=v:=⟨_,rfl⟩
          have bv:0<=v/\v<=18446744073709551615:=hv▸hI.out.1 j
          have Q1:Keep (∀w',Below wr.heap.size wr w'->w'.cell? ⟨w4.heap.size,j,none⟩=some (.int .u64 v)):=⟨fun w' hb'=>by rw[<-hv];exact (hT.keep hb').val (by rw[hI.out.2.1];omega)⟩
          obtain⟨o,ho⟩:∃o,fe (num (T.drop (j+1)))=o:=⟨_,rfl⟩
          rw[ho] at hO
          have OL:Keep (o.length=6/\Words o/\num o<PP):=⟨ho▸fe_len _,ho▸fe_words _,ho▸fe_less _⟩
          have FO:Keep (fe (18446744073709551616*num o+v)=fe (num (T.drop j))):=⟨by rw[<-ho];exact fe_next (by rw[<-hv];exact num_drop (by rw[hI.out.2.1];omega))⟩
          clear ho hv
          go_wp2
          refine wp_fam 5 (by kernel_rfl) (by kernel_rfl) (fun I hI' fw hf hback=>?_)
          simp only[List.take_succ_cons,List.take_zero,List.drop_succ_cons,List.drop_zero]
          have c1:∀i,(fw i).cell? ⟨w4.heap.size,j,none⟩=some (.int .u64 v):=fun i=>Q1.out _ (hf i)
          repeat (first
            | (go_big_quiet_want
               refine quiet_load_seg 24 (.tmp 17) (by rfl) w5.heap.size 0 6 (by rfl) 24 .u64 o o _ (fun w' ⟨i,hi⟩=>by rw[hi];exact hO.keep (hf i)) Tryz.underlying24 rfl (by kernel_rfl) (by rw[List.drop_zero,take_all OL.out.1]) (by rw[OL.out.1];omega) ?_
               simp only[Act.put,List.setIfInBounds_toArray,List.set_cons_zero,List.set_cons_succ]
               go_big_quiet_on)
            | go_big_quiet_step ((go_at_call 131;exact calls_fam hf hback (refNext_c o OL.out.1 OL.out.2.1 OL.out.2.2 v bv.1 bv.2 _))))
          refine wpQuiet_nil ?_
          intro w7 hb7
          rw[FO.out]
          have hO7:=hO.keep hb7
          have hR7:=hR.keep hb7
          have hT7:=hT.keep hb7
          have hbb7:=hb.trans (hb7.mono hb.size)
          clear hf hback hO hR hT hb hb7 c1
          go_wp2_with (refine store_abs (by rfl) 24 (.tmp 17) (.tmp 92) (by rfl) (by rfl) w5.heap.size (vals .u64 (fe (num (T.drop j)))) (by rfl) (by rfl) 24 _ hO7 (by rw[vals_size,fe_len];kernel_rfl) (by rw[vals_size,vals_size,fe_len,OL.out.1]) vals_one w.heap.size w hbb7 (by omega) ?_
                       intro w8 hO8 hkeep hb8
                       have hR8:=hkeep _ _ _ hR7 (by omega)
                       have hT8:=hkeep _ _ _ hT7 (by omega)
                       clear hkeep hR7 hT7 hO7 hbb7)
          go_roundg j
          case measure=>omega
          case rel=>exact⟨by omega,rfl,hR8,hT8,hO8,hb8⟩
end Fp
namespace Fp
open Go Go.RowKit Reg Base Limb Bits
def pw (x e:Int):Int:=x^e.toNat
theorem pw_zero (x:Int):pw x 0=1:=by rw[pw,Int.toNat_zero,Int.pow_zero]
theorem pw_add {x a b:Int}(ha:0<=a)(hb:0<=b):pw x (a+b)=pw x a*pw x b:=by
 rw[pw,pw,pw,<-Int.pow_add]
 congr 1
 omega
theorem pw_one (x:Int):pw x 1=x:=by rw[pw];exact Int.pow_one x
theorem fe_times (v u:Int):fe (num (fe v)*num (fe u))=fe (v*u):=fe_congr (by rw[num_fe,num_fe,<-Int.mul_emod])
theorem fe_timesL (v u:Int):fe (num (fe v)*u)=fe (v*u):=fe_congr (by rw[num_fe,Int.mul_emod,Int.emod_emod,<-Int.mul_emod])
theorem fe_one:fe 1=[1,0,0,0,0,0]:=by decide +kernel
theorem shift_nonneg {l:List Int}(hw:Words l)(k:Nat):0<=num l/tp k:=Int.ediv_nonneg (num_bounds hw).1 (Int.le_of_lt (tp_pos k))
set_option maxHeartbeats 2000000 in
theorem refFpPow_c (a:List Int)(hl:a.length=6)(hw:Words a)(A:Option Addr)(n c:Nat)(l:List Int)(B:Nat)(w:World)(hr:Rd w B A n .u64 l)(hwl:Words l)(hB:B<=w.heap.size)(hn:n<=100000):Calls Tryz.prog 135 #[.agg (vals .u64 a),.slice A n c] w fun e w'=>e=.returned (.agg (vals .u64 (fe (pw (num a) (num l)))))/\Below w.heap.size w w':=by
  have LN:Keep _:=⟨hr.len⟩
  have LW:Keep _:=⟨hwl⟩
  have AL:Keep _:=⟨hl⟩
  have AW:Keep _:=⟨hw⟩
  clear hwl hl hw
  have hA0:Has ((w.alloc (.cells (vals .u64 a) 24)).alloc (.cells (vals .u64 Z6) 24)) w.heap.size 24 (vals .u64 a):=(Has.new _ _ _).alloc _
  have hR0:Has ((w.alloc (.cells (vals .u64 a) 24)).alloc (.cells (vals .u64 Z6) 24)) (w.heap.size+1) 24 (vals .u64 Z6):=Has.new' _ (by simp) _ _
  have hb0:Below w.heap.size w ((w.alloc (.cells (vals .u64 a) 24)).alloc (.cells (vals .u64 Z6) 24)):=((Below.refl _ _).alloc (Nat.le_refl _) _).alloc (by simp) _
  have hO0:Has (((w.alloc (.cells (vals .u64 a) 24)).alloc (.cells (vals .u64 Z6) 24)).alloc (.cells (vals .u64 Z6) 24)) (w.heap.size+1+1) 24 (vals .u64 Z6):=Has.new' _ (by simp) _ _
  have hA0':=hA0.alloc (.cells (vals .u64 Z6) 24)
  have hR0':=hR0.alloc (.cells (vals .u64 Z6) 24)
  have hb0':=hb0.alloc (by simp<;>omega) (.cells (vals .u64 Z6) 24)
  have HE0:Keep ([1,0,0,0,0,0]=fe (pw (num a) (num l/tp (64*n)))):=⟨by
    have hb:=num_bounds LW.out
    rw[LN.out] at hb
    rw[tp_wp,Int.ediv_eq_zero_of_lt hb.1 hb.2,pw_zero,fe_one]⟩
  clear hA0 hR0 hb0
  go_enter Tryz.func135,Tryz.ntmps135
  go_wp2_with (first
    | (refine wpList_buildTo (by rfl) 24 #[(0,.const (.int .u64 1))] (by rfl) (some 7) (by rfl) (vals .u64 [1,0,0,0,0,0]) (by kernel_rfl) ?_)
    | (refine store_abs2 (by rfl) 24 (.tmp 5) (.tmp 7) (by rfl) (by rfl) (w.heap.size+1+1) (vals .u64 [1,0,0,0,0,0]) (by rfl) (by rfl) 24 (vals .u64 Z6) hO0 (by kernel_rfl) (by rfl) vals_one ?_
       intro w1 hO1 hkeep hbg
       rw[HE0.out] at hO1
       have hA1:=hkeep _ _ _ hA0' (by omega)
       have hR1:=hkeep _ _ _ hR0' (by omega)
       have hb1:=hb0'.trans (hbg.mono (by omega))
       clear hkeep hbg hA0' hR0' hb0' hO0))
  go_loopg [6] (64*n) (fun (gk:Nat) vi wr=>gk<=64*n/\vi=.int .i64 ((gk:Int)-1)/\Has wr w.heap.size 24 (vals .u64 a)/\Has wr (w.heap.size+1) 24 (vals .u64 Z6)/\Has wr (w.heap.size+1+1) 24 (vals .u64 (fe (pw (num a) (num l/tp gk))))/\Below w.heap.size w wr)
  case atStart=>exact⟨Nat.le_refl _,by go_num,hA1,hR1,hO1,hb1⟩
  case round=>
    clear hA1 hR1 hO1 hb1
    obtain⟨hk,rfl,hA,hR,hO,hb⟩:=hrel
    rcases gk with _|i
    · obtain⟨o,ho⟩:∃o,fe (pw (num a) (num l/tp 0))=o:=⟨_,rfl⟩
      rw[ho] at hO
      have OL:Keep (o.length=6):=⟨ho▸fe_len _⟩
      have FIN:Keep (o=fe (pw (num a) (num l))):=⟨by rw[<-ho,tp_zero,Int.ediv_one]⟩
      clear ho
      go_wp2_with (first
        | (refine wpList_load_row rfl 24 (.tmp 5) rfl (w.heap.size+1+1) rfl _ _ _ _ hO.eq Tryz.underlying24 rfl (by rw[vals_size,OL.out];kernel_rfl) ?_)
        | (refine wpList_store_rowTo rfl 24 (.tmp 4) (.tmp 33) rfl rfl (w.heap.size+1) (vals .u64 o) rfl rfl _ _ hR.eq (by rw[vals_size,OL.out];kernel_rfl) (by rw[vals_size,vals_size,OL.out];rfl) vals_one ?_))
      refine bodyPost_ret (v:=.agg (vals .u64 o)) (results_cell_row rfl _ _ (w.heap.size+1) _ _ _ _ rfl (hR.row _).eq Tryz.underlying24 rfl (by rw[vals_size,OL.out];kernel_rfl)) rfl ⟨ret_eq (by rw[FIN.out]),below_row hb (by omega) _⟩
    · have e1:((i+1:Nat):Int)-1=(i:Int):=by omega
      rw[e1]
      clear e1
      obtain⟨b1,o1,rfl,hlb1,hc1⟩:=hr.at_ (by omega)
      obtain⟨y,hy⟩:∃y,nth l (i/64)=y:=⟨_,rfl⟩
      have by':0<=y/\y<=18446744073709551615:=hy▸LW.out (i/64)
      have HY:Keep _:=⟨hy⟩
      have HC:Keep (∀w',Below w.heap.size w w'->w'.cell? ⟨b1,o1+i/64,none⟩=some (.int .u64 y)):=⟨fun w' hb'=>(hb'.cell (p:=⟨b1,o1+i/64,none⟩) (by show b1<_;omega)).trans (by rw[hc1 _ (by omega),hy])⟩
      clear hy hc1
      have hyb:bitL l i=y/2^(i%64)%2:=by rw[bitL,HY.out];rfl
      have hsb:=shr_bounds by'.1 by'.2 (i%64)
      have hand:=and_one hsb.1 hsb.2
      have hsn:=shift_nonneg LW.out (i+1)
      have hsh:=num_shift (num l) i
      rw[num_bit LW.out,hyb] at hsh
      obtain⟨o,ho⟩:∃o,fe (pw (num a) (num l/tp (i+1)))=o:=⟨_,rfl⟩
      obtain⟨o2,ho2⟩:∃o2,fe (num o*num o)=o2:=⟨_,rfl⟩
      have h2:o2=fe (pw (num a) (2*(num l/tp (i+1)))):=by
        rw[<-ho2,<-ho,fe_times,<-pw_add hsn hsn]
        congr 2
        omega
      rw[ho] at hO
      have OL:Keep (o.length=6/\Words o):=⟨ho▸fe_len _,ho▸fe_words _⟩
      have OL2:Keep (o2.length=6/\Words o2):=⟨ho2▸fe_len _,ho2▸fe_words _⟩
      have HO2:Keep _:=⟨ho2⟩
      rcases (show y/2^(i%64)%2=0∨y/2^(i%64)%2=1 by omega) with h3|h3
      · have hbit:(bits .and .u64 (y/2^(i%64)) 1==1)=false:=by rw[hand,h3];rfl
        have FIN:Keep (o2=fe (pw (num a) (num l/tp i))):=⟨by rw[h2,hsh,h3,Int.add_zero]⟩
        clear hyb hsb hand hsn hsh ho ho2 h2 h3
        go_wp2_with (first
          | (refine wpList_load_row rfl 24 (.tmp 5) rfl (w.heap.size+1+1) rfl _ _ _ _ hO.eq Tryz.underlying24 rfl (by rw[vals_size,OL.out.1];kernel_rfl) ?_)
          | (go_at_call 81
             refine (refFpMul_c o o OL.out.1 OL.out.2 OL.out.1 OL.out.2 _).mono ?_
             rintro e w2 ⟨rfl,hb2⟩
             rw[HO2.out]
             have hA2:=hA.keep hb2
             have hR2:=hR.keep hb2
             have hO2:=hO.keep hb2
             have hbb2:=hb.trans (hb2.mono hb.size)
             clear hA hR hO hb hb2)
          | (refine store_abs2 (by rfl) 24 (.tmp 5) (.tmp 18) (by rfl) (by rfl) (w.heap.size+1+1) (vals .u64 o2) (by rfl) (by rfl) 24 _ hO2 (by rw[vals_size,OL2.out.1];kernel_rfl) (by rw[vals_size,vals_size,OL.out.1,OL2.out.1]) vals_one ?_
             intro w3 hO3 hkeep hbg
             rw[FIN.out] at hO3
             have hA3:=hkeep _ _ _ hA2 (by omega)
             have hR3:=hkeep _ _ _ hR2 (by omega)
             have hb3:=hbb2.trans (hbg.mono (by omega))
             have hcell:=HC.out _ hb3
             clear hkeep hbg hA2 hR2 hO2 hbb2))
        go_roundg i
        case measure=>omega
        case rel=>exact⟨by omega,rfl,hA3,hR3,hO3,hb3⟩
      · have hbit:(bits .and .u64 (y/2^(i%64)) 1==1)=true:=by rw[hand,h3];rfl
        have FIN:Keep (fe (num o2*num a)=fe (pw (num a) (num l/tp i))):=⟨by rw[h2,fe_timesL,hsh,h3,pw_add (by omega) (by omega),pw_one]⟩
        obtain⟨o3,ho3⟩:∃o3,fe (num o2*num a)=o3:=⟨_,rfl⟩
        have OL3:Keep (o3.length=6):=⟨ho3▸fe_len _⟩
        have HO3:Keep _:=⟨ho3⟩
        clear hyb hsb hand hsn hsh ho ho2 h2 h3 ho3
        go_wp2_with (first
          | (have q1:=f2
             refine wpList_load_row rfl 24 (.tmp 5) rfl (w.heap.size+1+1) rfl _ _ _ _ hO3.eq Tryz.underlying24 rfl (by rw[vals_size,OL2.out.1];kernel_rfl) ?_)
          | (have q1:=f2
             refine wpList_load_row rfl 24 (.tmp 2) rfl w.heap.size rfl _ _ _ _ hA3.eq Tryz.underlying24 rfl (by rw[vals_size,AL.out];kernel_rfl) ?_)
          | (refine wpList_load_row rfl 24 (.tmp 5) rfl (w.heap.size+1+1) rfl _ _ _ _ hO.eq Tryz.underlying24 rfl (by rw[vals_size,OL.out.1];kernel_rfl) ?_)
          | (have q1:=f3
             refine store_abs2 (by rfl) 24 (.tmp 5) (.tmp 32) (by rfl) (by rfl) (w.heap.size+1+1) (vals .u64 o3) (by rfl) (by rfl) 24 _ hO4 (by rw[vals_size,OL3.out];kernel_rfl) (by rw[vals_size,vals_size,OL2.out.1,OL3.out]) vals_one ?_
             intro w5 hO5 hkeep hbg
             rw[<-HO3.out,FIN.out] at hO5
             have hA5:=hkeep _ _ _ hA4 (by omega)
             have hR5:=hkeep _ _ _ hR4 (by omega)
             have hb5:=hbb4.trans (hbg.mono (by omega))
             clear hkeep hbg hA4 hR4 hO4 hbb4 f3)
          | (have q1:=f2;go_at_call 81
             refine (refFpMul_c o2 a OL2.out.1 OL2.out.2 AL.out AW.out _).mono ?_
             rintro e w4 ⟨rfl,hb4⟩
             rw[HO3.out]
             have hA4:=hA3.keep hb4
             have hR4:=hR3.keep hb4
             have hO4:=hO3.keep hb4
             have hbb4:=hb3.trans (hb4.mono hb3.size)
             clear hA3 hR3 hO3 hb3 hb4 hcell f2
             have f3:=True.intro)
          | (refine store_abs2 (by rfl) 24 (.tmp 5) (.tmp 18) (by rfl) (by rfl) (w.heap.size+1+1) (vals .u64 o2) (by rfl) (by rfl) 24 _ hO2 (by rw[vals_size,OL2.out.1];kernel_rfl) (by rw[vals_size,vals_size,OL.out.1,OL2.out.1]) vals_one ?_
             intro w3 hO3 hkeep hbg
             have hA3:=hkeep _ _ _ hA2 (by omega)
             have hR3:=hkeep _ _ _ hR2 (by omega)
             have hb3:=hbb2.trans (hbg.mono (by omega))
             have hcell:=HC.out _ hb3
             have f2:=True.intro
             clear hkeep hbg hA2 hR2 hO2 hbb2)
          | (go_at_call 81
             refine (refFpMul_c o o OL.out.1 OL.out.2 OL.out.1 OL.out.2 _).mono ?_
             rintro e w2 ⟨rfl,hb2⟩
             rw[HO2.out]
             have hA2:=hA.keep hb2
             have hR2:=hR.keep hb2
             have hO2:=hO.keep hb2
             have hbb2:=hb.trans (hb2.mono hb.size)
             clear hA hR hO hb hb2))
        go_roundg i
        case measure=>omega
        case rel=>exact⟨by omega,rfl,hA5,hR5,hO5,hb5⟩
end Fp
namespace Fp
open Go Go.RowKit Reg Base Limb Bits
def qL:List Int:=[13402431016077863593,2210141511517208575,7435674573564081700,7239337960414712511,5412103778470702295,1873798617647539866]
theorem num_qL:num qL=PP-2:=by decide +kernel
theorem qL_words:Words qL:=words_of _ (by decide)
set_option maxHeartbeats 2000000 in
theorem refFpInv_c (a:List Int)(hl:a.length=6)(hw:Words a)(w:World):Calls Tryz.prog 89 #[.agg (vals .u64 a)] w fun e w'=>e=.returned (.agg (vals .u64 (fe (pw (num a) (PP-2)))))/\Below w.heap.size w w':=by
  have AL:Keep _:=⟨hl⟩
  have AW:Keep _:=⟨hw⟩
  clear hl hw
  obtain⟨o,ho⟩:∃o,fe (pw (num a) (PP-2))=o:=⟨_,rfl⟩
  have OL:Keep (o.length=6):=⟨ho▸fe_len _⟩
  have HO:Keep (fe (pw (num a) (num qL))=o):=⟨by rw[num_qL,ho]⟩
  rw[ho]
  clear ho
  have hA0:Has ((w.alloc (.cells (vals .u64 a) 24)).alloc (.cells (vals .u64 Z6) 24)) w.heap.size 24 (vals .u64 a):=(Has.new _ _ _).alloc _
  have hR0:Has ((w.alloc (.cells (vals .u64 a) 24)).alloc (.cells (vals .u64 Z6) 24)) (w.heap.size+1) 24 (vals .u64 Z6):=Has.new' _ (by simp) _ _
  have hb0:Below w.heap.size w ((w.alloc (.cells (vals .u64 a) 24)).alloc (.cells (vals .u64 Z6) 24)):=((Below.refl _ _).alloc (Nat.le_refl _) _).alloc (by simp) _
  go_enter Tryz.func89,Tryz.ntmps89
  go_wp2_with (first
    | (go_at_call 134
       refine (refP_c _).mono ?_
       rintro e w1 ⟨rfl,hb1⟩
       have hA1:=hA0.keep hb1
       have hR1:=hR0.keep hb1
       have hbb1:=hb0.trans (hb1.mono hb0.size)
       clear hA0 hR0 hb0 hb1)
    | (refine store_abs2 (by rfl) 24 (.tmp 3) (.tmp 4) (by rfl) (by rfl) w1.heap.size (vals .u64 pL) (by rfl) (by rfl) 24 (vals .u64 Z6) (Has.new' _ rfl _ _) (by kernel_rfl) (by rfl) vals_one ?_
       intro w2 hP2 hkeep hbg
       have hbe:=((Below.refl w1.heap.size w1).alloc (Nat.le_refl _) (.cells (vals .u64 Z6) 24)).trans hbg
       have hA2:=hA1.keep hbe
       have hR2:=hR1.keep hbe
       have hbb2:=hbb1.trans (hbe.mono hbb1.size)
       have hg1:w.heap.size+1<w1.heap.size:=hR1.lt
       have co:w2.cell? ⟨w1.heap.size,0,none⟩=some (.int .u64 13402431016077863595):=hP2.val (i:=0) (by show 0<6;omega)
       have zo:=hP2.frozen 0
       have hP3:Has (w2.setCell ⟨w1.heap.size,0,none⟩ (.int .u64 13402431016077863593)) w1.heap.size 24 (vals .u64 qL):=hP2.set_ 0 (.int .u64 13402431016077863593)
       have hA3:=hA2.far (p:=⟨w1.heap.size,0,none⟩) (by show w.heap.size≠w1.heap.size;omega) (.int .u64 13402431016077863593)
       have hR3:=hR2.far (p:=⟨w1.heap.size,0,none⟩) (by show w.heap.size+1≠w1.heap.size;omega) (.int .u64 13402431016077863593)
       have hb3:=hbb2.setCell (p:=⟨w1.heap.size,0,none⟩) (by show w.heap.size<=w1.heap.size;omega) (.int .u64 13402431016077863593)
       clear hkeep hbg hbe hA1 hR1 hbb1 hA2 hR2 hbb2 hP2))
  generalize w2.setCell ⟨w1.heap.size,0,none⟩ (.int .u64 13402431016077863593)=w3 at *
  clear co zo
  have hg3:w1.heap.size<w3.heap.size:=hP3.lt
  refine wp_fam 3 (by kernel_rfl) (by kernel_rfl) (fun I hI' fw hf hback=>?_)
  simp only[List.take_succ_cons,List.take_zero,List.drop_succ_cons,List.drop_zero]
  repeat (first
    | (go_big_quiet_want
       refine quiet_load_seg 24 (.tmp 1) (by rfl) w.heap.size 0 6 (by rfl) 24 .u64 a a _ (fun w' ⟨i,hi⟩=>by rw[hi];exact hA3.keep (hf i)) Tryz.underlying24 rfl (by kernel_rfl) (by rw[List.drop_zero,take_all AL.out]) (by rw[AL.out];omega) ?_
       simp only[Act.put,List.setIfInBounds_toArray,List.set_cons_zero,List.set_cons_succ]
       go_big_quiet_on)
    | go_big_quiet_step ((go_at_call 135;exact calls_fam hf hback (refFpPow_c a AL.out AW.out (some ⟨w1.heap.size,0,none⟩) 6 6 qL w3.heap.size _ (Rd.of_has (hP3.keep (hf _)) hg3 rfl (by show 6<=6;omega)) qL_words (hf _).size (by omega)))))
  refine wpQuiet_nil ?_
  intro w4 hb4
  rw[HO.out]
  have hR4:=hR3.keep hb4
  have hbb4:=hb3.trans (hb4.mono hb3.size)
  clear hf hback hA3 hR3 hP3 hb3 hb4
  go_wp2_with (refine wpList_store_rowTo rfl 24 (.tmp 2) (.tmp 11) rfl rfl (w.heap.size+1) (vals .u64 o) rfl rfl _ _ hR4.eq (by rw[vals_size,OL.out];kernel_rfl) (by rw[vals_size,vals_size,OL.out];rfl) vals_one ?_)
  refine bodyPost_ret (v:=.agg (vals .u64 o)) (results_cell_row rfl _ _ (w.heap.size+1) _ _ _ _ rfl (hR4.row _).eq Tryz.underlying24 rfl (by rw[vals_size,OL.out];kernel_rfl)) rfl ⟨rfl,below_row hbb4 (by omega) _⟩
end Fp
end Go.Proofs.YtjamcbjghffboaaGreatDoor
