/-
  Own text.
-/
import Derived.Test.YtjamcbjghffboaaGreatDoorMFw1
import Derived.Test.YtjamcbjghffboaaGreatDoorLimbOwnC
import Derived.Test.YtjamcbjghffboaaGreatDoorMFpN
import Derived.Test.YtjamcbjghffboaaGreatDoorMReg
import Derived.Test.YtjamcbjghffboaaGreatDoorLimbOwnD
set_option linter.unusedVariables false
set_option linter.unusedSimpArgs false
set_option maxRecDepth 100000
namespace Go.Proofs.YtjamcbjghffboaaGreatDoor
namespace Fp
open Go Go.RowKit Reg Base Limb Bits
def oppL:List Int:=[5044313057631688021,16236602562192343040,11011069500145469915,11207406113294839104,13034640295238849320,16572945456062011749]
theorem num_oppL:num oppL=wp 6-PP:=by decide +kernel
theorem oppL_words:Words oppL:=words_of _ (by decide)
theorem often {N B q:Int}(h0:0<=N)(h1:N<4611686018427387904*PP)(hB0:B*0x80000000000000000000000000000000000000000000000000000000000000000000000000000000000000000000000<=N)(hB1:N<(B+1)*0x80000000000000000000000000000000000000000000000000000000000000000000000000000000000000000000000)(hq0:18446744073709551616*q<=B*5675008971684246062)(hq1:B*5675008971684246062<18446744073709551616*(q+1)) :
  0<=N-q*PP/\N-q*PP<2*PP/\0<=B/\B<=18446744073709551615:=by
 have hB:0<=B/\B<=18446744073709551615:=by rw[PP] at h1;omega
 refine⟨?_,?_,hB.1,hB.2⟩
 ·have h2:18446744073709551616*(q*PP)<=B*(5675008971684246062*PP):=by
   have:=Int.mul_le_mul_of_nonneg_right hq0 (Int.le_of_lt PP_pos)
   grind
  rw[PP] at h2 ⊢
  omega
 ·have h2:B*(5675008971684246062*PP)<18446744073709551616*((q+1)*PP):=by
   have:=Int.mul_lt_mul_of_pos_right hq1 PP_pos
   grind
  rw[PP] at h2 ⊢
  omega
theorem low_sum {a:List Int}{top N:Int}{x0 x1 x2 x3 x4 x5:Int}(ha:a=[x0,x1,x2,x3,x4,x5])(hw:Words a)(hN:num a+wp 6*top=N) :
  (top*32+x5/576460752303423488)*0x80000000000000000000000000000000000000000000000000000000000000000000000000000000000000000000000<=N/\N<(top*32+x5/576460752303423488+1)*0x80000000000000000000000000000000000000000000000000000000000000000000000000000000000000000000000:=by
 subst ha
 obtain⟨b0,b1,b2,b3,b4,b5⟩:=words6 hw
 rw[num_of6,wp_six] at hN
 subst hN
 constructor<;>omega
theorem sum_of {o a:List Int}{N q top cy:Int}(hlo:o.length=6)(hwo:Words o)(hN:num a+wp 6*top=N)(h0:0<=N-q*PP)(h1:N-q*PP<2*PP)(he:num o+wp 6*cy=num a+q*num oppL):num o=N-q*PP:=by
 have n1:=num6 hwo hlo
 have h2:=PP_lt
 rw[num_oppL,Int.mul_sub] at he
 have h3:(num o)%wp 6=(N-q*PP)%wp 6:=by
  have:num o=(N-q*PP)+wp 6*(q-top-cy):=by grind
  rw[this,Int.add_mul_emod_self_left]
 rwa [Int.emod_eq_of_lt n1.1 n1.2,Int.emod_eq_of_lt h0 (by omega)] at h3
theorem once_of {o o':List Int}{N q:Int}(hlo:o'.length=6)(hwo:Words o')(hS:num o=N-q*PP)(h0:0<=N-q*PP)(h1:N-q*PP<2*PP)(he:num o'=if num o<PP then num o else num o-PP):o'=fe N:=by
 rw[hS] at he
 have hlt:num o'<PP:=by
  split at he<;>omega
 rw[fe_below hwo hlo hlt]
 refine fe_congr ?_
 rw[he]
 split
 ·rw[Int.mul_comm,Int.sub_mul_emod_self_left]
 ·rw[show N-q*PP-PP=N-PP*(q+1) by grind,Int.sub_mul_emod_self_left]
set_option maxHeartbeats 1000000 in
theorem takeMultiples_c (g:Nat)(t:TypeId)(a r:List Int)(top:Int)(hla:a.length=6)(hwa:Words a)(h0:0<=top)(h1:num a+wp 6*top<4611686018427387904*PP)(hf:Free g)(w:World)(hG:Glob w)(hA:Has w g t (vals .u64 (a++r))) :
    Calls Tryz.prog 167 #[.pointer (some ⟨g,0,none⟩),.int .u64 top] w fun e w'=>e=.returned (.tuple #[])/\Has w' g t (vals .u64 (fe (num a+wp 6*top)++r))/\Only g w w':=by
  obtain⟨x0,x1,x2,x3,x4,x5,ha⟩:=six_of hla
  have c5:w.cell? ⟨g,5,none⟩=some (.int .u64 x5):=by rw[ha] at hA;exact hA.val (i:=5) (by simp<;>omega)
  have b5:0<=x5/\x5<=18446744073709551615:=by have:=hwa 5;rw[ha] at this;exact this
  obtain⟨N,hN⟩:∃N,num a+wp 6*top=N:=⟨_,rfl⟩
  have hls:=low_sum ha hwa hN
  rw[hN] at h1 ⊢
  have hN0:0<=N:=by
    have:=(num6 hwa hla).1
    have:=wp_six
    rw[<-hN]
    have:0<=wp 6*top:=Int.mul_nonneg (Int.le_of_lt (wp_pos 6)) h0
    omega
  obtain⟨B,hB⟩:∃B,top*32+x5/576460752303423488=B:=⟨_,rfl⟩
  rw[hB] at hls
  have hBb:0<=B/\B<=18446744073709551615:=by rw[PP] at h1;omega
  obtain⟨q,l,MU,F,bq,bl⟩:=mul_told B 5675008971684246062 hBb ⟨by omega,by omega⟩
  have of:=often (q:=q) hN0 h1 hls.1 hls.2 (by have:=F.out;omega) (by have:=F.out;omega)
  have hor:bits .or .u64 (IntKind.u64.wrap (top*32)) (x5/576460752303423488)=B:=by
    rw[IntKind.wrap_u64,Int.emod_eq_of_lt (by omega) (by omega),<-hB]
    exact bits_join .u64 64 (by decide) (fun n h0 h1=>by rw[IntKind.wrap_u64];omega) 5 (top*32) _ (by omega) (by omega) (by omega) (by omega) (by omega) (by omega)
  have OF:Keep _:=⟨of⟩
  have LA:Keep _:=⟨hla⟩
  have WA:Keep _:=⟨hwa⟩
  have HN:Keep _:=⟨hN⟩
  have HF:Keep _:=⟨hf⟩
  have HG:Keep _:=⟨hG⟩
  have hgl:=hA.lt
  have hne:g≠w.heap.size:=by omega
  clear hf hG hla hwa hN ha F bl of hls h0 h1 hN0 b5 hBb hB
  go_enter Tryz.func167,Tryz.ntmps167
  go_wp2_with (first
    | (go_at_call 153
       refine (takeOnce_c g t o r LO.out WO.out HF.out _ HG2.out hA2).mono ?_
       rintro e w3 ⟨rfl,o',hA3,hl3,hw3,hn3,ho3⟩
       have hO3:=hO2.trans ho3
       have FIN:Keep _:=⟨once_of hl3 hw3 HS.out OF.out.1 OF.out.2.1 hn3⟩
       rw[FIN.out] at hA3
       clear hA2 hO2 ho3 hn3 hl3 hw3)
    | (go_at_call 151
       refine (fpTimes_c g 0 w.heap.size t 24 [] a r oppL rfl LA.out WA.out rfl oppL_words q bq hne _ hA1 hQ1).mono ?_
       rintro e w2 ⟨o,cy,rfl,hA2,hlo,hwo,hno,_,_,ho2⟩
       have HG2:Keep _:=⟨HG1.out.only ho2 HF.out⟩
       have hO2:=hO1.trans ho2
       have LO:Keep _:=⟨hlo⟩
       have WO:Keep _:=⟨hwo⟩
       have HS:Keep _:=⟨sum_of hlo hwo HN.out OF.out.1 OF.out.2.1 hno⟩
       rw[List.nil_append] at hA2
       clear hA1 hQ1 ho2 hO1 hlo hwo hno)
    | (refine wpList_buildFlatArrTo rfl 24 22 6 _ rfl .u64 oppL (some 19) rfl Tryz.underlying24 (by kernel_rfl) (by kernel_rfl) rfl ?_)
    | (refine store_abs2 (by rfl) 24 (.tmp 6) (.tmp 19) (by rfl) (by rfl) w.heap.size (vals .u64 oppL) (by rfl) (by rfl) 24 (vals .u64 Z6) (Has.new' _ rfl _ _) (by kernel_rfl) (by rfl) vals_one ?_
       intro w1 hQ1 hkeep hbg
       have hbe:=((Below.refl w.heap.size w).alloc (Nat.le_refl _) (.cells (vals .u64 Z6) 24)).trans hbg
       have hA1:Has w1 g t (vals .u64 ([]++(a++r))):=hA.keep hbe
       have HG1:Keep _:=⟨HG.out.keep hbe⟩
       have hO1:Only g w w1:=Only.of_below hbe g
       clear hkeep hbg hbe hA)
    | (go_at_call 129
       refine (MU.out _).mono ?_
       rintro e w0 ⟨rfl,rfl⟩
       clear c5 hor))
  go_end0
  exact⟨rfl,hA3,hO3⟩
set_option maxHeartbeats 1000000 in
theorem fpLower_c (g:Nat)(t:TypeId)(a:List Int)(hla:a.length=6)(hwa:Words a)(hf:Free g)(w:World)(hG:Glob w)(hA0:Has w g t (vals .u64 a)) :
    Calls Tryz.prog 147 #[.pointer (some ⟨g,0,none⟩)] w fun e w'=>e=.returned (.tuple #[])/\Has w' g t (vals .u64 (fe (num a)))/\Only g w w':=by
  obtain⟨x0,x1,x2,x3,x4,x5,ha⟩:=six_of hla
  obtain⟨tp,hP0⟩:=hG.p
  have C5:Keep (∀w',Below w.heap.size w w'->w'.cell? ⟨g,5,none⟩=some (.int .u64 x5)):=⟨fun w' hb=>by rw[ha] at hA0;exact (hA0.keep hb).val (i:=5) (by simp)⟩
  have P5:Keep (∀w',Below w.heap.size w w'->w'.cell? ⟨5,5,none⟩=some (.int .u64 1873798617647539866)):=⟨fun w' hb=>(hP0.keep hb).val (i:=5) (by decide)⟩
  have hless:x5<1873798617647539866->num a<PP:=by
    have hw:=hwa
    rw[ha] at hw
    obtain⟨b0,b1,b2,b3,b4,b5⟩:=words6 hw
    rw[ha,num_of6,PP]
    intro h
    omega
  have hlim:num a+wp 6*0<4611686018427387904*PP:=by
    have h1:=(num6 hwa hla).2
    have h2:=PP_lt
    rw[Int.mul_zero,Int.add_zero]
    omega
  have HT:=fun w' hG' hA'=>takeMultiples_c g t a [] 0 hla hwa (by omega) hlim hf w' hG' hA'
  rw[Int.mul_zero,Int.add_zero] at HT
  simp only[List.append_nil] at HT
  have HT':Keep _:=⟨HT⟩
  have HG:Keep _:=⟨hG⟩
  have HL:Keep _:=⟨hless⟩
  have LA:Keep _:=⟨hla⟩
  have WA:Keep _:=⟨hwa⟩
  clear HT hG hP0 hless hlim hla hwa ha
  by_cases hc:x5<1873798617647539866
  · have FIN:Keep _:=⟨fe_below WA.out LA.out (HL.out hc)⟩
    have hge:(x5>=1873798617647539866)=False:=by simp only[ge_iff_le,eq_iff_iff,iff_false];omega
    have hgd:decide (1873798617647539866<=x5)=false:=decide_eq_false (by omega)
    go_enter Tryz.func147,Tryz.ntmps147
    go_wp2
    refine wp_fam_all (by kernel_rfl) (by kernel_rfl) (fun I hI' fw hf' hback=>?_)
    have ca:∀j,(fw j).cell? ⟨g,5,none⟩=some (.int .u64 x5):=fun j=>C5.out _ (hf' j)
    have cp:∀j,(fw j).cell? ⟨5,5,none⟩=some (.int .u64 1873798617647539866):=fun j=>P5.out _ (hf' j)
    repeat (go_big_quiet_step (fail))
    refine wpQuiet_nil ?_
    intro w1 hq
    clear ca cp hf' hback
    go_wp2
    go_end0
    exact⟨rfl,FIN.out▸hA0.keep hq,Only.of_below hq g⟩
  · have hgd:decide (1873798617647539866<=x5)=true:=decide_eq_true (by omega)
    go_enter Tryz.func147,Tryz.ntmps147
    go_wp2
    refine wp_fam_all (by kernel_rfl) (by kernel_rfl) (fun I hI' fw hf' hback=>?_)
    have ca:∀j,(fw j).cell? ⟨g,5,none⟩=some (.int .u64 x5):=fun j=>C5.out _ (hf' j)
    have cp:∀j,(fw j).cell? ⟨5,5,none⟩=some (.int .u64 1873798617647539866):=fun j=>P5.out _ (hf' j)
    repeat (go_big_quiet_step (fail))
    refine wpQuiet_nil ?_
    intro w1 hq
    clear ca cp hf' hback
    have hA1:=hA0.keep hq
    have HG1:Keep _:=⟨HG.out.keep hq⟩
    have hO1:Only g w w1:=Only.of_below hq g
    clear hA0 hq
    go_wp2_with (first
      | (go_at_call 167
         refine (HT'.out _ HG1.out hA1).mono ?_
         rintro e w2 ⟨rfl,hA2,ho2⟩
         have hO2:=hO1.trans ho2
         clear hA1 ho2 hO1))
    go_end0
    exact⟨rfl,hA2,hO2⟩
end Fp
namespace Fp
open Go Go.RowKit Reg Base Limb Bits
theorem Z6_wd:Words Z6:=words_of _ (by decide)
theorem num_Z6':num Z6=0:=by decide +kernel
theorem sum_once {x y:Int}{o o':List Int}{d:Int}(hl:o.length=6)(hw:Words o)(hl':o'.length=6)(hw':Words o')(hs:num o+wp 6*d=num (fe x)+num (fe y))(hd0:0<=d)(hd1:d<=1)(he:num o'=if num o<PP then num o else num o-PP):o'=fe (x+y):=by
 have h1:=fe_mod x
 have h2:=fe_mod y
 have h3:=PP_lt
 have h4:=num6 hw hl
 rw[num_fe,num_fe] at hs
 rw[wp_six] at hs h3
 have hd:d=0:=by omega
 subst hd
 rw[Int.mul_zero,Int.add_zero] at hs
 have hc:fe (x+y)=fe (num o):=fe_congr (by rw[hs,<-Int.add_emod])
 have hlt:num o'<PP:=by split at he<;>omega
 rw[fe_below hw' hl' hlt,hc]
 refine fe_congr ?_
 rw[he]
 split
 ·rfl
 ·rw[Int.sub_emod_right]
theorem diff_lt {x y:Int}{o:List Int}{d:Int}(hl:o.length=6)(hw:Words o)(hs:num o-wp 6*d=num (fe x)-num (fe y))(hd0:0<=d)(hd1:d<=1)(h:num (fe x)<num (fe y)):d=1:=by
 have h4:=num6 hw hl
 rw[wp_six] at *
 omega
theorem diff_ge {x y:Int}{o:List Int}{d:Int}(hl:o.length=6)(hw:Words o)(hs:num o-wp 6*d=num (fe x)-num (fe y))(hd0:0<=d)(hd1:d<=1)(h:¬num (fe x)<num (fe y)):d=0:=by
 have h4:=num6 hw hl
 have h1:=fe_mod x
 have h2:=PP_lt
 rw[num_fe x] at *
 rw[wp_six] at *
 omega
theorem diff_none {x y:Int}{o:List Int}(hl:o.length=6)(hw:Words o)(hs:num o-wp 6*0=num (fe x)-num (fe y)):o=fe (x-y):=by
 have h1:=fe_mod x
 have h2:=fe_mod y
 rw[num_fe,num_fe,Int.mul_zero,Int.sub_zero] at hs
 rw[fe_below hw hl (by omega)]
 exact fe_congr (by rw[hs,<-Int.sub_emod])
theorem diff_once {x y:Int}{o o':List Int}{d:Int}(hl:o.length=6)(hw:Words o)(hl':o'.length=6)(hw':Words o')(hs:num o-wp 6*1=num (fe x)-num (fe y))(he:num o'+wp 6*d=num o+num pL)(hd0:0<=d)(hd1:d<=1):o'=fe (x-y):=by
 have h1:=fe_mod x
 have h2:=fe_mod y
 have h3:=PP_lt
 have h4:=num6 hw hl
 have h5:=num6 hw' hl'
 rw[num_fe,num_fe] at hs
 rw[num_pL] at he
 rw[wp_six] at hs h3 he h4 h5
 have hn:num o'=x%PP-y%PP+PP:=by omega
 rw[fe_below hw' hl' (by omega)]
 exact fe_congr (by rw[hn,Int.add_emod_right,<-Int.sub_emod])
set_option maxHeartbeats 1000000 in
theorem fpReduce_c (a:List Int)(hla:a.length=6)(hwa:Words a)(w:World)(hG:Glob w):Calls Tryz.prog 115 #[.agg (vals .u64 a)] w fun e w'=>e=.returned (.agg (vals .u64 (fe (num a))))/\Below w.heap.size w w':=by
  obtain⟨o,ho⟩:∃o,(fe (num a))=o:=⟨_,rfl⟩
  have OL:Keep (o.length=6):=⟨by rw[<-ho];exact fe_len _⟩
  have HO:Keep _:=⟨ho⟩
  have La:Keep _:=⟨hla⟩
  have Wa:Keep _:=⟨hwa⟩
  have qa0:Has ((w.alloc (.cells (vals .u64 a) 24)).alloc (.cells (vals .u64 Z6) 24)) (w.heap.size) 24 (vals .u64 a):=((Has.new _ _ _).alloc _)
  have Fa:Keep (Free (w.heap.size)):=⟨hG.free (by omega)⟩
  have hR0:Has ((w.alloc (.cells (vals .u64 a) 24)).alloc (.cells (vals .u64 Z6) 24)) (w.heap.size+1) 24 (vals .u64 Z6):=Has.new' _ (by simp) _ _
  have hb0:Below w.heap.size w ((w.alloc (.cells (vals .u64 a) 24)).alloc (.cells (vals .u64 Z6) 24)):=(((Below.refl _ _).alloc (by simp<;>omega) _).alloc (by simp<;>omega) _)
  have HG0:Keep _:=⟨hG.keep hb0⟩
  rw[ho]
  clear ho hG hla hwa
  go_enter Tryz.func115,Tryz.ntmps115
  go_wp2_with (first
    | (refine wpList_load_row rfl 24 (.tmp 1) rfl (w.heap.size) rfl _ _ _ _ qa1.eq Tryz.underlying24 rfl (by rw[vals_size,OL.out];kernel_rfl) ?_)
    | (refine wpList_store_rowTo rfl 24 (.tmp 2) (.tmp 4) rfl rfl (w.heap.size+1) (vals .u64 o) rfl rfl _ _ hR1.eq (by rw[vals_size,OL.out];kernel_rfl) (by rw[vals_size,vals_size,OL.out];rfl) vals_one ?_)
    | (go_at_call 147
       refine (fpLower_c (w.heap.size) 24 a La.out Wa.out Fa.out _ HG0.out qa0).mono ?_
       rintro e w1 ⟨rfl,qa1,ho⟩
       have hR1:=ho.has hR0 (by omega)
       have HG1:Keep _:=⟨HG0.out.only ho Fa.out⟩
       have hb1:=hb0.trans (ho.below (B:=w.heap.size) (by omega) hb0.size)
       clear ho hb0 hR0 qa0
       rw[HO.out] at qa1))
  refine bodyPost_ret (v:=.agg (vals .u64 o)) (results_cell_row rfl _ _ (w.heap.size+1) _ _ _ _ rfl (hR1.row _).eq Tryz.underlying24 rfl (by rw[vals_size,OL.out];kernel_rfl)) rfl ⟨rfl,below_row hb1 (by omega) _⟩
set_option maxHeartbeats 1000000 in
theorem fpAdd_c (a:List Int)(hla:a.length=6)(hwa:Words a)(b:List Int)(hlb:b.length=6)(hwb:Words b)(w:World)(hG:Glob w):Calls Tryz.prog 124 #[.agg (vals .u64 a),.agg (vals .u64 b)] w fun e w'=>e=.returned (.agg (vals .u64 (fe (num a+num b))))/\Below w.heap.size w w':=by
  obtain⟨o,ho⟩:∃o,(fe (num a+num b))=o:=⟨_,rfl⟩
  have OL:Keep (o.length=6):=⟨by rw[<-ho];exact fe_len _⟩
  have HO:Keep _:=⟨ho⟩
  have La:Keep _:=⟨hla⟩
  have Wa:Keep _:=⟨hwa⟩
  have Lb:Keep _:=⟨hlb⟩
  have Wb:Keep _:=⟨hwb⟩
  have qa0:Has (((w.alloc (.cells (vals .u64 a) 24)).alloc (.cells (vals .u64 b) 24)).alloc (.cells (vals .u64 Z6) 24)) (w.heap.size) 24 (vals .u64 a):=(((Has.new _ _ _).alloc _).alloc _)
  have Fa:Keep (Free (w.heap.size)):=⟨hG.free (by omega)⟩
  have qb0:Has (((w.alloc (.cells (vals .u64 a) 24)).alloc (.cells (vals .u64 b) 24)).alloc (.cells (vals .u64 Z6) 24)) (w.heap.size+1) 24 (vals .u64 b):=((Has.new' _ (by simp) _ _).alloc _)
  have Fb:Keep (Free (w.heap.size+1)):=⟨hG.free (by omega)⟩
  have hR0:Has (((w.alloc (.cells (vals .u64 a) 24)).alloc (.cells (vals .u64 b) 24)).alloc (.cells (vals .u64 Z6) 24)) (w.heap.size+1+1) 24 (vals .u64 Z6):=Has.new' _ (by simp) _ _
  have hb0:Below w.heap.size w (((w.alloc (.cells (vals .u64 a) 24)).alloc (.cells (vals .u64 b) 24)).alloc (.cells (vals .u64 Z6) 24)):=((((Below.refl _ _).alloc (by simp<;>omega) _).alloc (by simp<;>omega) _).alloc (by simp<;>omega) _)
  have HG0:Keep _:=⟨hG.keep hb0⟩
  rw[ho]
  clear ho hG hla hwa hlb hwb
  go_enter Tryz.func124,Tryz.ntmps124
  go_wp2_with (first
    | (refine wpList_load_row rfl 24 (.tmp 2) rfl (w.heap.size) rfl _ _ _ _ qa4.eq Tryz.underlying24 rfl (by rw[vals_size,OL.out];kernel_rfl) ?_)
    | (refine wpList_store_rowTo rfl 24 (.tmp 4) (.tmp 9) rfl rfl (w.heap.size+1+1) (vals .u64 o) rfl rfl _ _ hR4.eq (by rw[vals_size,OL.out];kernel_rfl) (by rw[vals_size,vals_size,OL.out];rfl) vals_one ?_)
    | (go_at_call 153
       refine (takeOnce_c (w.heap.size) 24 o2 [] S3.out.1 S3.out.2.1 Fa.out _ HG3.out (by rw[List.append_nil];exact qa3)).mono ?_
       rintro e w4 ⟨rfl,o3,qa4,hl,hw,hs,ho⟩
       have FIN:Keep _:=⟨(sum_once S3.out.1 S3.out.2.1 hl hw S3.out.2.2.1 S3.out.2.2.2.1 S3.out.2.2.2.2 hs).trans HO.out⟩
       rw[List.append_nil,FIN.out] at qa4
       have hR4:=ho.has hR3 (by omega)
       have HG4:Keep _:=⟨HG3.out.only ho Fa.out⟩
       have hb4:=hb3.trans (ho.below (B:=w.heap.size) (by omega) hb3.size)
       clear ho hb3 hR3 qa3 hl hw hs)
    | (go_at_call 149
       refine (addTo_c (w.heap.size) (w.heap.size+1) 24 24 (fe (num a)) (fe (num b)) (fe_len _) (fe_len _) (fe_words _) (fe_words _) (by omega) _ qa2 qb2).mono ?_
       rintro e w3 ⟨rfl,o2,d,qa3,hl,hw,hs,hd0,hd1,ho⟩
       have S3:Keep _:=⟨And.intro hl (And.intro hw (And.intro hs (And.intro hd0 hd1)))⟩
       have hR3:=ho.has hR2 (by omega)
       have qb3:=ho.has qb2 (by omega)
       have HG3:Keep _:=⟨HG2.out.only ho Fa.out⟩
       have hb3:=hb2.trans (ho.below (B:=w.heap.size) (by omega) hb2.size)
       clear ho hb2 hR2 qb2 qa2 hl hw hs hd0 hd1)
    | (go_at_call 147
       refine (fpLower_c (w.heap.size+1) 24 b Lb.out Wb.out Fb.out _ HG1.out qb1).mono ?_
       rintro e w2 ⟨rfl,qb2,ho⟩
       have hR2:=ho.has hR1 (by omega)
       have qa2:=ho.has qa1 (by omega)
       have HG2:Keep _:=⟨HG1.out.only ho Fb.out⟩
       have hb2:=hb1.trans (ho.below (B:=w.heap.size) (by omega) hb1.size)
       clear ho hb1 hR1 qa1 qb1)
    | (go_at_call 147
       refine (fpLower_c (w.heap.size) 24 a La.out Wa.out Fa.out _ HG0.out qa0).mono ?_
       rintro e w1 ⟨rfl,qa1,ho⟩
       have hR1:=ho.has hR0 (by omega)
       have qb1:=ho.has qb0 (by omega)
       have HG1:Keep _:=⟨HG0.out.only ho Fa.out⟩
       have hb1:=hb0.trans (ho.below (B:=w.heap.size) (by omega) hb0.size)
       clear ho hb0 hR0 qb0 qa0))
  refine bodyPost_ret (v:=.agg (vals .u64 o)) (results_cell_row rfl _ _ (w.heap.size+1+1) _ _ _ _ rfl (hR4.row _).eq Tryz.underlying24 rfl (by rw[vals_size,OL.out];kernel_rfl)) rfl ⟨rfl,below_row hb4 (by omega) _⟩
set_option maxHeartbeats 1000000 in
theorem fpSub_c (a:List Int)(hla:a.length=6)(hwa:Words a)(b:List Int)(hlb:b.length=6)(hwb:Words b)(w:World)(hG:Glob w):Calls Tryz.prog 117 #[.agg (vals .u64 a),.agg (vals .u64 b)] w fun e w'=>e=.returned (.agg (vals .u64 (fe (num a-num b))))/\Below w.heap.size w w':=by
  obtain⟨o,ho⟩:∃o,(fe (num a-num b))=o:=⟨_,rfl⟩
  have OL:Keep (o.length=6):=⟨by rw[<-ho];exact fe_len _⟩
  have HO:Keep _:=⟨ho⟩
  have La:Keep _:=⟨hla⟩
  have Wa:Keep _:=⟨hwa⟩
  have Lb:Keep _:=⟨hlb⟩
  have Wb:Keep _:=⟨hwb⟩
  have qa0:Has (((w.alloc (.cells (vals .u64 a) 24)).alloc (.cells (vals .u64 b) 24)).alloc (.cells (vals .u64 Z6) 24)) (w.heap.size) 24 (vals .u64 a):=(((Has.new _ _ _).alloc _).alloc _)
  have Fa:Keep (Free (w.heap.size)):=⟨hG.free (by omega)⟩
  have qb0:Has (((w.alloc (.cells (vals .u64 a) 24)).alloc (.cells (vals .u64 b) 24)).alloc (.cells (vals .u64 Z6) 24)) (w.heap.size+1) 24 (vals .u64 b):=((Has.new' _ (by simp) _ _).alloc _)
  have Fb:Keep (Free (w.heap.size+1)):=⟨hG.free (by omega)⟩
  have hR0:Has (((w.alloc (.cells (vals .u64 a) 24)).alloc (.cells (vals .u64 b) 24)).alloc (.cells (vals .u64 Z6) 24)) (w.heap.size+1+1) 24 (vals .u64 Z6):=Has.new' _ (by simp) _ _
  have hb0:Below w.heap.size w (((w.alloc (.cells (vals .u64 a) 24)).alloc (.cells (vals .u64 b) 24)).alloc (.cells (vals .u64 Z6) 24)):=((((Below.refl _ _).alloc (by simp<;>omega) _).alloc (by simp<;>omega) _).alloc (by simp<;>omega) _)
  have HG0:Keep _:=⟨hG.keep hb0⟩
  rw[ho]
  clear ho hG hla hwa hlb hwb
  by_cases hc:num (fe (num a))<num (fe (num b))
  · have HC:Keep _:=⟨hc⟩
    clear hc
    go_enter Tryz.func117,Tryz.ntmps117
    go_wp2_with (first
      | (refine wpList_load_row rfl 24 (.tmp 2) rfl (w.heap.size) rfl _ _ _ _ qa5.eq Tryz.underlying24 rfl (by rw[vals_size,OL.out];kernel_rfl) ?_)
      | (refine wpList_store_rowTo rfl 24 (.tmp 4) (.tmp 12) rfl rfl (w.heap.size+1+1) (vals .u64 o) rfl rfl _ _ hR5.eq (by rw[vals_size,OL.out];kernel_rfl) (by rw[vals_size,vals_size,OL.out];rfl) vals_one ?_)
      | (go_at_call 149
         refine (addTo_c (w.heap.size) w3.heap.size 24 24 o2 pL S3.out.1 pL_len S3.out.2.1 pL_words (by have:=HS3.out;omega) _ qa4 hQ4).mono ?_
         rintro e w5 ⟨rfl,o5,d5,qa5,hl,hw,hs,hd0,hd1,ho⟩
         have FIN:Keep _:=⟨(diff_once S3.out.1 S3.out.2.1 hl hw S3.out.2.2 hs hd0 hd1).trans HO.out⟩
         rw[FIN.out] at qa5
         have hR5:=ho.has hR4 (by omega)
         have HG5:Keep _:=⟨HG4.out.only ho Fa.out⟩
         have hb5:=hb4.trans (ho.below (B:=w.heap.size) (by omega) hb4.size)
         clear ho hb4 hR4 qa4 hQ4 hl hw hs hd0 hd1)
      | (refine store_abs2 (by rfl) 24 (.tmp 5) (.tmp 10) (by rfl) (by rfl) w3.heap.size (vals .u64 pL) (by rfl) (by rfl) 24 (vals .u64 Z6) (Has.new' _ rfl _ _) (by kernel_rfl) (by rfl) vals_one ?_
         intro w4 hQ4 hkeep hbg
         have hbe:=((Below.refl w3.heap.size w3).alloc (Nat.le_refl _) (.cells (vals .u64 Z6) 24)).trans hbg
         have qa4:=qa3.keep hbe
         have hR4:=hR3.keep hbe
         have HG4:Keep _:=⟨HG3.out.keep hbe⟩
         have hb4:=hb3.trans (hbe.mono hb3.size)
         clear hkeep hbg hbe qa3 hR3 hb3 hP3)
      | (refine wpList_load_row rfl 24 (.global 5) rfl 5 rfl _ _ _ _ hP3.eq Tryz.underlying24 rfl (by kernel_rfl) ?_)
      | (go_at_call 148
         refine (takeFrom_c (w.heap.size) (w.heap.size+1) 24 24 (fe (num a)) (fe (num b)) (fe_len _) (fe_len _) (fe_words _) (fe_words _) (by omega) _ qa2 qb2).mono ?_
         rintro e w3 ⟨o2,d,rfl,qa3,hl,hw,hs,hd0,hd1,ho⟩
         obtain rfl:d=1:=diff_lt hl hw hs hd0 hd1 (by have:=HC.out;omega)
         have S3:Keep _:=⟨And.intro hl (And.intro hw hs)⟩
         have hR3:=ho.has hR2 (by omega)
         have qb3:=ho.has qb2 (by omega)
         have HG3:Keep _:=⟨HG2.out.only ho Fa.out⟩
         have hb3:=hb2.trans (ho.below (B:=w.heap.size) (by omega) hb2.size)
         clear ho hb2 hR2 qb2 qa2 hl hw hs hd0 hd1
         obtain⟨tp,hP3⟩:=HG3.out.p
         have HS3:Keep (w.heap.size<w3.heap.size):=⟨qa3.lt⟩)
      | (go_at_call 147
         refine (fpLower_c (w.heap.size+1) 24 b Lb.out Wb.out Fb.out _ HG1.out qb1).mono ?_
         rintro e w2 ⟨rfl,qb2,ho⟩
         have hR2:=ho.has hR1 (by omega)
         have qa2:=ho.has qa1 (by omega)
         have HG2:Keep _:=⟨HG1.out.only ho Fb.out⟩
         have hb2:=hb1.trans (ho.below (B:=w.heap.size) (by omega) hb1.size)
         clear ho hb1 hR1 qa1 qb1)
      | (go_at_call 147
         refine (fpLower_c (w.heap.size) 24 a La.out Wa.out Fa.out _ HG0.out qa0).mono ?_
         rintro e w1 ⟨rfl,qa1,ho⟩
         have hR1:=ho.has hR0 (by omega)
         have qb1:=ho.has qb0 (by omega)
         have HG1:Keep _:=⟨HG0.out.only ho Fa.out⟩
         have hb1:=hb0.trans (ho.below (B:=w.heap.size) (by omega) hb0.size)
         clear ho hb0 hR0 qb0 qa0))
    refine bodyPost_ret (v:=.agg (vals .u64 o)) (results_cell_row rfl _ _ (w.heap.size+1+1) _ _ _ _ rfl (hR5.row _).eq Tryz.underlying24 rfl (by rw[vals_size,OL.out];kernel_rfl)) rfl ⟨rfl,below_row hb5 (by omega) _⟩
  · have HC:Keep _:=⟨hc⟩
    clear hc
    go_enter Tryz.func117,Tryz.ntmps117
    go_wp2_with (first
      | (refine wpList_load_row rfl 24 (.tmp 2) rfl (w.heap.size) rfl _ _ _ _ qa3.eq Tryz.underlying24 rfl (by rw[vals_size,OL.out];kernel_rfl) ?_)
      | (refine wpList_store_rowTo rfl 24 (.tmp 4) (.tmp 12) rfl rfl (w.heap.size+1+1) (vals .u64 o) rfl rfl _ _ hR3.eq (by rw[vals_size,OL.out];kernel_rfl) (by rw[vals_size,vals_size,OL.out];rfl) vals_one ?_)
      | (go_at_call 148
         refine (takeFrom_c (w.heap.size) (w.heap.size+1) 24 24 (fe (num a)) (fe (num b)) (fe_len _) (fe_len _) (fe_words _) (fe_words _) (by omega) _ qa2 qb2).mono ?_
         rintro e w3 ⟨o2,d,rfl,qa3,hl,hw,hs,hd0,hd1,ho⟩
         obtain rfl:d=0:=diff_ge hl hw hs hd0 hd1 (by have:=HC.out;omega)
         have S3:Keep _:=⟨And.intro hl (And.intro hw hs)⟩
         have hR3:=ho.has hR2 (by omega)
         have qb3:=ho.has qb2 (by omega)
         have HG3:Keep _:=⟨HG2.out.only ho Fa.out⟩
         have hb3:=hb2.trans (ho.below (B:=w.heap.size) (by omega) hb2.size)
         clear ho hb2 hR2 qb2 qa2 hl hw hs hd0 hd1
         have FIN:o2=o:=(diff_none S3.out.1 S3.out.2.1 S3.out.2.2).trans HO.out
         rw[FIN] at qa3)
      | (go_at_call 147
         refine (fpLower_c (w.heap.size+1) 24 b Lb.out Wb.out Fb.out _ HG1.out qb1).mono ?_
         rintro e w2 ⟨rfl,qb2,ho⟩
         have hR2:=ho.has hR1 (by omega)
         have qa2:=ho.has qa1 (by omega)
         have HG2:Keep _:=⟨HG1.out.only ho Fb.out⟩
         have hb2:=hb1.trans (ho.below (B:=w.heap.size) (by omega) hb1.size)
         clear ho hb1 hR1 qa1 qb1)
      | (go_at_call 147
         refine (fpLower_c (w.heap.size) 24 a La.out Wa.out Fa.out _ HG0.out qa0).mono ?_
         rintro e w1 ⟨rfl,qa1,ho⟩
         have hR1:=ho.has hR0 (by omega)
         have qb1:=ho.has qb0 (by omega)
         have HG1:Keep _:=⟨HG0.out.only ho Fa.out⟩
         have hb1:=hb0.trans (ho.below (B:=w.heap.size) (by omega) hb0.size)
         clear ho hb0 hR0 qb0 qa0))
    refine bodyPost_ret (v:=.agg (vals .u64 o)) (results_cell_row rfl _ _ (w.heap.size+1+1) _ _ _ _ rfl (hR3.row _).eq Tryz.underlying24 rfl (by rw[vals_size,OL.out];kernel_rfl)) rfl ⟨rfl,below_row hb3 (by omega) _⟩
set_option maxHeartbeats 1000000 in
theorem fpNeg_c (a:List Int)(hla:a.length=6)(hwa:Words a)(w:World)(hG:Glob w):Calls Tryz.prog 116 #[.agg (vals .u64 a)] w fun e w'=>e=.returned (.agg (vals .u64 (fe (-num a))))/\Below w.heap.size w w':=by
  obtain⟨o,ho⟩:∃o,(fe (-num a))=o:=⟨_,rfl⟩
  have OL:Keep (o.length=6):=⟨by rw[<-ho];exact fe_len _⟩
  have HO:Keep _:=⟨ho⟩
  have La:Keep _:=⟨hla⟩
  have Wa:Keep _:=⟨hwa⟩
  have qa0:Has ((w.alloc (.cells (vals .u64 a) 24)).alloc (.cells (vals .u64 Z6) 24)) (w.heap.size) 24 (vals .u64 a):=((Has.new _ _ _).alloc _)
  have Fa:Keep (Free (w.heap.size)):=⟨hG.free (by omega)⟩
  have hR0:Has ((w.alloc (.cells (vals .u64 a) 24)).alloc (.cells (vals .u64 Z6) 24)) (w.heap.size+1) 24 (vals .u64 Z6):=Has.new' _ (by simp) _ _
  have hb0:Below w.heap.size w ((w.alloc (.cells (vals .u64 a) 24)).alloc (.cells (vals .u64 Z6) 24)):=(((Below.refl _ _).alloc (by simp<;>omega) _).alloc (by simp<;>omega) _)
  have HG0:Keep _:=⟨hG.keep hb0⟩
  have HZ:Keep (fe (num Z6-num a)=o):=⟨by rw[num_Z6',Int.zero_sub,ho]⟩
  rw[ho]
  clear ho hG hla hwa
  go_enter Tryz.func116,Tryz.ntmps116
  go_wp2_with (first
    | (refine wpList_buildTo (by rfl) 24 #[] (by rfl) (some 3) (by rfl) (vals .u64 Z6) (by kernel_rfl) ?_)
    | (refine wpList_load_row rfl 24 (.tmp 1) rfl (w.heap.size) rfl _ _ _ _ qa0.eq Tryz.underlying24 rfl (by rw[vals_size,La.out];kernel_rfl) ?_)
    | (go_at_call 117
       refine (fpSub_c Z6 rfl Z6_wd a La.out Wa.out _ HG0.out).mono ?_
       rintro e w1 ⟨rfl,hb1⟩
       rw[HZ.out]
       have hR1:=hR0.keep hb1
       have hbb1:=hb0.trans (hb1.mono hb0.size)
       clear hR0 hb0 hb1 qa0)
    | (refine wpList_store_rowTo rfl 24 (.tmp 2) (.tmp 5) rfl rfl (w.heap.size+1) (vals .u64 o) rfl rfl _ _ hR1.eq (by rw[vals_size,OL.out];kernel_rfl) (by rw[vals_size,vals_size,OL.out];rfl) vals_one ?_))
  refine bodyPost_ret (v:=.agg (vals .u64 o)) (results_cell_row rfl _ _ (w.heap.size+1) _ _ _ _ rfl (hR1.row _).eq Tryz.underlying24 rfl (by rw[vals_size,OL.out];kernel_rfl)) rfl ⟨rfl,below_row hbb1 (by omega) _⟩
end Fp
namespace Reg
open Go Limb
theorem only_row' (g:Nat)(w:World)(cs:Array Value):Only g w (w.setRow g cs):=
 ⟨rfl,rfl,rfl,by simp,fun k _ hne=>setRow_other w g k cs hne⟩
theorem load_seg {P:Program}{w:World}{ops:Array Oper}{rest:List Oper}{o:Oper}{a:Act}{Q:Exit->Act->World->Prop}(hgd:o.guard=none)(ty:TypeId)(x:Operand)(ho:o.op=.load ty x)(g off n:Nat)(hx:a.eval x=.pointer (some ⟨g,off,none⟩))(t:TypeId)(k:IntKind)(xs ys:List Int)(d:TypeDesc)
  (hg:Has w g t (vals k xs)) (hu:P.underlying ty=some d) (hd:(match d with | .struct _ | .array _ _=>true|_=>false)=true)
  (hi:(P.info? ty).map (·.size)=some n) (hy:ys=(xs.drop off).take n) (hoff:off+n<=xs.length) (h:wpList P ops Q rest (a.put o.dst (.agg (vals k ys))) w):wpList P ops Q (o :: rest) a w:=by
 refine wpList_plain hgd fun K hK=>?_
 unfold Oper.wp execOp
 simp only[ho,hx,Instr.loadAt,Instr.sureAddr,Sem.run_bind,Sem.run_pure,Result.andThen_ok,run_load_seg hg hu hd hi hy hoff]
 exact hK _ _ h
theorem store_val {P:Program}{w:World}{ops:Array Oper}{rest:List Oper}{o:Oper}{a:Act}{Q:Exit->Act->World->Prop}(hgd:o.guard=none)(ty:TypeId)(x y:Operand)(ho:o.op=.store ty x y)
  (hd:o.dst=none) (g i:Nat) (hx:a.eval x=.pointer (some ⟨g,i,none⟩)) (v:Value) (hy:a.eval y=v) (hv:v.cells=#[v]) (h1:v.oneCell'=true) (hty:(P.info? ty).map (·.size)=some 1)
  (t:TypeId) (cs:Array Value) (hg:Has w g t cs) (hi:i<cs.size)
  (h:∀w',Has w' g t (cs.setIfInBounds i v)->Only g w w'->wpList P ops Q rest a w'):wpList P ops Q (o :: rest) a w:=by
 refine wpList_plain hgd fun K hK=>?_
 have hst:=run_storeCells_at P g i t [v] 0 cs w hg.eq (by simp;omega) (fun u hu=>by
  obtain rfl:u=v:=by simpa using hu
  exact h1)
 have hcells:(cs.toList.take (i+0)++[v]++cs.toList.drop (i+0+[v].length)).toArray=cs.setIfInBounds i v:=by
  apply Array.toList_inj.1
  rw[Array.toList_setIfInBounds,Nat.add_zero,List.set_eq_take_append_cons_drop,if_pos (by simpa using hi),List.append_assoc]
  rfl
 rw[hcells] at hst
 cases hq:P.info? ty with
 |none=>simp[hq] at hty
 |some inf=>
  have hs:inf.size=1:=by simpa [hq] using hty
  have hrun:(storeVar ty ⟨g,i,none⟩ v).run P w=.ok () (w.setRow g (cs.setIfInBounds i v)):=by
   simp[storeVar,sizeOf,typeInfo,hq,hv,hs,hst]
  unfold Oper.wp execOp
  simp only[ho,hx,hy,Instr.storeAt,Instr.sureAddr,Sem.run_bind,Sem.run_pure,Result.andThen_ok,hrun]
  refine hK _ _ ?_
  rw[hd]
  exact h _ (hg.row _) (only_row' g w _)
theorem clear_abs {P:Program}{w:World}{ops:Array Oper}{rest:List Oper}{o:Oper}{a:Act}{Q:Exit->Act->World->Prop}(hgd:o.guard=none)(x:Operand)(tx:TypeId)
  (ho:o.op=.call { callee:=.builtin .clear,args:=#[x],argTypes:=#[tx] }) (e:TypeId) (hu:P.underlying tx=some (.slice e)) (k:IntKind) (bytes:Nat) (he:IntElem P e k bytes)
  (g off n c:Nat) (hx:a.eval x=.slice (some ⟨g,off,none⟩) n c) (hn:0<n) (t:TypeId) (xs ys:List Int) (hg:Has w g t (vals k xs)) (hfit:off+n<=xs.length) (hys:xs.take off++(List.replicate n 0++xs.drop (off+n))=ys)
  (h:∀w',Has w' g t (vals k ys)->Only g w w'->wpList P ops Q rest (a.put o.dst (.tuple #[])) w'):wpList P ops Q (o :: rest) a w:=by
 refine wpList_plain hgd fun K hK=>?_
 obtain⟨i,hi,hz,hs,hby⟩:=he.get
 have hz0:(Builtin.zeroCells (Value.int k 0).cells n).toList=List.replicate n (Value.int k 0):=by
  apply List.ext_getElem
  ·simp[Builtin.zeroCells,Value.cells]
  ·intro j h1 h2
   simp[Builtin.zeroCells,Value.cells,Nat.mod_one]
 have hst:=run_storeCells_at P g off t (List.replicate n (Value.int k 0)) 0 (vals k xs) w hg.eq (by rw[vals_size];simp;omega) (fun u hu=>by
  obtain rfl:=List.eq_of_mem_replicate hu
  rfl)
 have hcells:((vals k xs).toList.take (off+0)++List.replicate n (Value.int k 0)++(vals k xs).toList.drop (off+0+(List.replicate n (Value.int k 0)).length)).toArray=vals k ys:=by
  subst hys
  simp[vals,List.append_assoc]
 rw[hcells] at hst
 have hrun:(Builtin.clear_ #[tx] o.type #[.slice (some ⟨g,off,none⟩) n c]).run P w=.ok (.tuple #[]) (w.setRow g (vals k ys)):=by
  obtain⟨m,rfl⟩:∃m,n=m+1:=⟨n-1,by omega⟩
  simp[Builtin.clear_,run_underlying hu,zeroValue,typeInfo,hi,hz,hz0,hst]
 unfold Oper.wp execOp
 simp only[ho,resolve,invoke,builtin,Sem.run_bind,Sem.run_pure,Result.andThen_ok,List.map_toArray,List.map_cons,List.map_nil,hx,hrun]
 exact hK _ _ (h _ (hg.row _) (only_row' g w _))
end Reg
namespace Fp
open Go Go.RowKit Reg Base Limb Bits
theorem below_cell {w w':World}{b i:Nat}(h:Below w.heap.size w w')(hb:b<w.heap.size):w'.cell? ⟨b,i,none⟩=w.cell? ⟨b,i,none⟩:=h.cell (p:=⟨b,i,none⟩) hb
theorem only_cell {g:Nat}{w w':World}{b i:Nat}(h:Only g w w')(hb:b<w.heap.size)(hne:b≠g):w'.cell? ⟨b,i,none⟩=w.cell? ⟨b,i,none⟩:=by
 simp only[World.cell?,h.block b hb hne]
theorem cell_lt {w:World}{b i:Nat}{v:Value}(h:w.cell? ⟨b,i,none⟩=some v):b<w.heap.size:=block_lt_of_cell h
theorem set_six {o r:List Int}{c v:Int}(h:o.length=6):(o++c :: r).set 6 v=o++v :: r:=by
 rw[List.set_append_right _ _ (by omega),h,Nat.sub_self]
 rfl
def Seen (g b2 b3:Nat)(x:World):Prop:=
 x.cell? ⟨b2,0,none⟩=some (.pointer (some ⟨g,0,none⟩))/\x.cell? ⟨b3,0,none⟩=some (.pointer (some ⟨g,0,none⟩))
theorem seen_up {g b2 b3:Nat}(w w':World)(h:Seen g b2 b3 w)(hb:Below w.heap.size w w'):Seen g b2 b3 w':=
 ⟨(below_cell hb (cell_lt h.1)).trans h.1,(below_cell hb (cell_lt h.2)).trans h.2⟩
theorem seen_only {g b2 b3:Nat}{w w':World}(h:Seen g b2 b3 w)(ho:Only g w w')(h2:b2≠g)(h3:b3≠g):Seen g b2 b3 w':=
 ⟨(only_cell ho (cell_lt h.1) h2).trans h.1,(only_cell ho (cell_lt h.2) h3).trans h.2⟩
set_option maxHeartbeats 1000000 in
theorem foldStep_c (g b2 b3:Nat)(t t2 t3:TypeId)(a r res:List Int)(c x:Int)(hla:a.length=6)(hwa:Words a)(hlr:res.length=6)(hwr:Words res)(hc:0<=c/\c<=18446744073709551615)(hx:0<=x/\x<=18446744073709551615)
    (hV:num a+wp 6*c+x*num res<wp 7) (h2g:b2≠g) (h3g:b3≠g) (w:World) (h2:Has w b2 t2 #[.pointer (some ⟨g,0,none⟩)]) (h3:Has w b3 t3 #[.pointer (some ⟨g,0,none⟩)]) (hA:Has w g t (vals .u64 (a++c :: r))) :
    Calls Tryz.prog 168 #[.agg (vals .u64 res),.int .u64 x,.pointer (some ⟨b2,0,none⟩),.pointer (some ⟨b3,0,none⟩)] w fun e w'=>e=.returned (.tuple #[])/\∃(o:List Int) (c':Int),Has w' g t (vals .u64 (o++c' :: r))/\o.length=6/\Words o/\0<=c'/\c'<=18446744073709551615/\num o+wp 6*c'=num a+wp 6*c+x*num res/\Only g w w':=by
  have hs0:Seen g b2 b3 (w.alloc (.cells (vals .u64 res) 24)):=by
    have c2:=(h2.alloc (.cells (vals .u64 res) 24)).cell 0
    have c3:=(h3.alloc (.cells (vals .u64 res) 24)).cell 0
    exact⟨c2,c3⟩
  have hX0:Has (w.alloc (.cells (vals .u64 res) 24)) w.heap.size 24 (vals .u64 res):=Has.new _ _ _
  have hA0:Has (w.alloc (.cells (vals .u64 res) 24)) g t (vals .u64 ([]++(a++c :: r))):=hA.alloc _
  have hO0:Only g w (w.alloc (.cells (vals .u64 res) 24)):=Only.of_below ((Below.refl _ _).alloc (Nat.le_refl _) _) g
  obtain⟨w1,hw1⟩:∃w1,w.alloc (.cells (vals .u64 res) 24)=w1:=⟨_,rfl⟩
  rw[hw1] at hs0 hX0 hA0 hO0
  have hgl:g≠w.heap.size:=Nat.ne_of_lt hA.lt
  have LA:Keep _:=⟨hla⟩
  have WA:Keep _:=⟨hwa⟩
  have LR:Keep _:=⟨hlr⟩
  have WR:Keep _:=⟨hwr⟩
  have CC:Keep _:=⟨hc⟩
  have XX:Keep _:=⟨hx⟩
  have VV:Keep _:=⟨hV⟩
  have HS:Keep (∀w w':World,Seen g b2 b3 w->Below w.heap.size w w'->Seen g b2 b3 w'):=⟨seen_up⟩
  have K2:Keep (∀w',Seen g b2 b3 w'->w'.cell? ⟨b2,0,none⟩=some (.pointer (some ⟨g,0,none⟩))):=⟨fun _ h=>h.1⟩
  have K3:Keep (∀w',Seen g b2 b3 w'->w'.cell? ⟨b3,0,none⟩=some (.pointer (some ⟨g,0,none⟩))):=⟨fun _ h=>h.2⟩
  clear h2 h3 hA hla hwa hlr hwr hc hx hV
  go_enter Tryz.func168,Tryz.ntmps168
  go_wp2
  have hdr:Seen g b2 b3 w1.drew:=hs0
  refine wp_regionU (S:=Seen g b2 b3) (by kernel_rfl) ?_
  change wpAnyU _ _ _ _ _ 11 _ _ _
  refine wpAnyU_take (i:=0) (v:=.pointer (some ⟨g,0,none⟩)) HS.out (by rfl) (by kernel_rfl) (by kernel_rfl) (by kernel_rfl) (fun _ _ d _ _ h=>by cases d<;>exact h) hdr (Or.inl ⟨by rfl,fun w hw=>(by unfold Oper.quietAt;have c:=K2.out w hw;go_simp)⟩) ?_
  simp only[Act.put,List.setIfInBounds_toArray,List.set_cons_zero,List.set_cons_succ]
  refine wpAnyU_take (i:=1) (v:=_) HS.out (by rfl) (by kernel_rfl) (by kernel_rfl) (by kernel_rfl) (fun _ _ d _ _ h=>by cases d<;>exact h) hdr (Steady.of_yields (Or.inl ⟨by rfl,fun w=>(by go_simp;with_reducible rfl)⟩)) ?_
  simp only[Act.put,List.setIfInBounds_toArray,List.set_cons_zero,List.set_cons_succ]
  refine wpAnyU_take (i:=2) (v:=_) HS.out (by rfl) (by kernel_rfl) (by kernel_rfl) (by kernel_rfl) (fun _ _ d _ _ h=>by cases d<;>exact h) hdr (Steady.of_yields (Or.inl ⟨by rfl,fun w=>(by go_simp;with_reducible rfl)⟩)) ?_
  simp only[Act.put,List.setIfInBounds_toArray,List.set_cons_zero,List.set_cons_succ]
  refine wpAnyU_take (i:=4) (v:=.pointer (some ⟨g,0,none⟩)) HS.out (by rfl) (by kernel_rfl) (by kernel_rfl) (by kernel_rfl) (fun _ _ d _ _ h=>by cases d<;>exact h) hdr (Or.inl ⟨by rfl,fun w hw=>(by unfold Oper.quietAt;have c:=K3.out w hw;go_simp)⟩) ?_
  simp only[Act.put,List.setIfInBounds_toArray,List.set_cons_zero,List.set_cons_succ]
  refine wpAnyU_take (i:=5) (v:=_) HS.out (by rfl) (by kernel_rfl) (by kernel_rfl) (by kernel_rfl) (fun _ _ d _ _ h=>by cases d<;>exact h) hdr (Steady.of_yields (Or.inl ⟨by rfl,fun w=>(by go_simp;with_reducible rfl)⟩)) ?_
  simp only[Act.put,List.setIfInBounds_toArray,List.set_cons_zero,List.set_cons_succ]
  refine wpAnyU_take (i:=8) (v:=_) HS.out (by rfl) (by kernel_rfl) (by kernel_rfl) (by kernel_rfl) (fun _ _ d _ _ h=>by cases d<;>exact h) hdr (Steady.of_yields (Or.inl ⟨by rfl,fun w=>(by go_simp;with_reducible rfl)⟩)) ?_
  simp only[Act.put,List.setIfInBounds_toArray,List.set_cons_zero,List.set_cons_succ]
  have hA2:=hA0.drew
  have hX2:=hX0.drew
  have hO2:Only g w w1.drew:=only_drew hO0
  have hs2:=hdr
  obtain⟨w2,hw2⟩:∃w2,w1.drew=w2:=⟨_,rfl⟩
  rw[hw2] at hA2 hX2 hO2 hs2 ⊢
  clear hX0 hA0 hO0 hs0 hdr hw1 hw2
  refine wpAnyU_two (i:=3) (k:=6) (by rfl) (by rfl) (by kernel_rfl) (fun w3 hq=>?_) (fun w3 hq=>?_)
  · have hA3:=hA2.keep hq
    have hO3:=hO2.trans (Only.of_below hq g)
    have hs3:=seen_up _ _ hs2 hq
    have hX3:=hX2.keep hq
    clear hA2 hO2 hs2 hq hX2
    have c6:w3.cell? ⟨g,6,none⟩=some (.int .u64 c):=by rw[List.nil_append] at hA3;exact at_off hA3 LA.out (i:=0) (by simp)
    refine wpList_own (by rfl) ?_
    have SK:Keep (Seen g b2 b3 w3):=⟨hs3⟩
    clear hs3
    go_wp2
    refine⟨SK.out,?_⟩
    have hs3:=SK.out
    clear SK c6
    refine wpAnyU_run (i:=6) (by rfl) (by kernel_rfl) (fun w4 hq=>?_)
    have hA4:=hA3.keep hq
    have hO4:=hO3.trans (Only.of_below hq g)
    have hs4:=seen_up _ _ hs3 hq
    have hX4:=hX3.keep hq
    clear hA3 hO3 hs3 hq hX3
    refine wpList_own (by rfl) ?_
    go_wp2_with (go_at_call 151
                 refine (fpTimes_c g 0 w.heap.size t 24 [] a (c :: r) res rfl LA.out WA.out LR.out WR.out x XX.out hgl _ hA4 hX4).mono ?_
                 rintro e w5 ⟨o,cy,rfl,hA5,hlo,hwo,hno,hc0,hc1,ho⟩
                 have hO5:=hO4.trans ho
                 have SK:Keep (Seen g b2 b3 w5):=⟨seen_only hs4 ho h2g h3g⟩
                 have HNO:Keep _:=⟨And.intro hlo (And.intro hwo (And.intro hno (And.intro hc0 hc1)))⟩
                 clear hX4 hA4 hO4 hs4 ho hlo hwo hno hc0 hc1)
    refine⟨SK.out,?_⟩
    rw[List.nil_append] at hA5
    have hs5:=SK.out
    clear SK
    have hcc:0<=c+cy/\c+cy<=18446744073709551615:=by
      have h1:=VV.out
      have h2:=HNO.out.2.2.1
      have h3:=(num6 HNO.out.2.1 HNO.out.1).1
      have h4:=HNO.out.2.2.2
      have h5:=CC.out
      rw[show wp 7=wp 6*18446744073709551616 from wp_succ 6,wp_six] at h1
      rw[wp_six] at h2
      generalize x*num res=q at *
      generalize num a=q2 at *
      generalize num o=q3 at *
      omega
    have hwr:IntKind.u64.wrap (c+cy)=c+cy:=by rw[IntKind.wrap_u64];omega
    obtain⟨c',hc'⟩:∃c',c+cy=c':=⟨_,rfl⟩
    rw[hc'] at hwr hcc
    have HC:Keep _:=⟨hc'⟩
    have HW:Keep (IntKind.u64.wrap (c+cy)=c'):=⟨by rw[hc',hwr]⟩
    have HCC:Keep _:=⟨hcc⟩
    clear hc' hwr hcc
    refine wpAnyU_take (i:=7) (v:=(.int .u64 c')) HS.out (by rfl) (by kernel_rfl) (by kernel_rfl) (by kernel_rfl) (fun _ _ d _ _ h=>by cases d<;>exact h) hs5 (Steady.of_yields (Or.inl ⟨by rfl,fun w=>(by have h:=HW.out;go_simp)⟩)) ?_
    simp only[Act.put,List.setIfInBounds_toArray,List.set_cons_zero,List.set_cons_succ]
    refine wpAnyU_take (i:=9) (v:=_) HS.out (by rfl) (by kernel_rfl) (by kernel_rfl) (by kernel_rfl) (fun _ _ d _ _ h=>by cases d<;>exact h) hs5 (Steady.of_yields (Or.inl ⟨by rfl,fun w=>(by go_simp;with_reducible rfl)⟩)) ?_
    simp only[Act.put,List.setIfInBounds_toArray,List.set_cons_zero,List.set_cons_succ]
    refine wpAnyU_run (i:=10) (by rfl) (by kernel_rfl) (fun w6 hq=>?_)
    have hA6:=hA5.keep hq
    have hO6:=hO5.trans (Only.of_below hq g)
    have hs6:=seen_up _ _ hs5 hq
    clear hA5 hO5 hs5 hq
    refine store_word (by rfl) 22 (.tmp 15) (.tmp 13) (by rfl) (by rfl) g 6 (by rfl) .u64 c' (by rfl) (by kernel_rfl) t _ hA6 (by simp;have:=HNO.out.1;omega) _ (set_six HNO.out.1) (fun w9 hA9 ho=>?_)
    have hO9:=hO6.trans ho
    refine⟨seen_only hs6 ho h2g h3g,wpAnyU_end (by kernel_rfl) (fun w10 hq=>?_)⟩
    have hA10:=hA9.keep hq
    have hO10:=hO9.trans (Only.of_below hq g)
    go_wp2
    go_end0
    refine⟨rfl,o,c',hA10,HNO.out.1,HNO.out.2.1,HCC.out.1,HCC.out.2,?_,hO10⟩
    have h1:=HNO.out.2.2.1
    have h2:=HC.out
    grind
  · have hA3:=hA2.keep hq
    have hO3:=hO2.trans (Only.of_below hq g)
    have hs3:=seen_up _ _ hs2 hq
    have hX3:=hX2.keep hq
    clear hA2 hO2 hs2 hq hX2
    refine wpList_own (by rfl) ?_
    go_wp2_with (go_at_call 151
                 refine (fpTimes_c g 0 w.heap.size t 24 [] a (c :: r) res rfl LA.out WA.out LR.out WR.out x XX.out hgl _ hA3 hX3).mono ?_
                 rintro e w4 ⟨o,cy,rfl,hA4,hlo,hwo,hno,hc0,hc1,ho⟩
                 have hO4:=hO3.trans ho
                 have SK:Keep (Seen g b2 b3 w4):=⟨seen_only hs3 ho h2g h3g⟩
                 have HNO:Keep _:=⟨And.intro hlo (And.intro hwo (And.intro hno (And.intro hc0 hc1)))⟩
                 clear hX3 hA3 hO3 hs3 ho hlo hwo hno hc0 hc1)
    refine⟨SK.out,?_⟩
    rw[List.nil_append] at hA4
    have hs4:=SK.out
    clear SK
    refine wpAnyU_run (i:=3) (by rfl) (by kernel_rfl) (fun w5 hq=>?_)
    have hA5:=hA4.keep hq
    have hO5:=hO4.trans (Only.of_below hq g)
    have hs5:=seen_up _ _ hs4 hq
    clear hA4 hO4 hs4 hq
    have c6:w5.cell? ⟨g,6,none⟩=some (.int .u64 c):=at_off hA5 HNO.out.1 (i:=0) (by simp)
    refine wpList_own (by rfl) ?_
    have SK:Keep (Seen g b2 b3 w5):=⟨hs5⟩
    clear hs5
    go_wp2
    refine⟨SK.out,?_⟩
    have hs5:=SK.out
    clear SK c6
    have hcc:0<=c+cy/\c+cy<=18446744073709551615:=by
      have h1:=VV.out
      have h2:=HNO.out.2.2.1
      have h3:=(num6 HNO.out.2.1 HNO.out.1).1
      have h4:=HNO.out.2.2.2
      have h5:=CC.out
      rw[show wp 7=wp 6*18446744073709551616 from wp_succ 6,wp_six] at h1
      rw[wp_six] at h2
      generalize x*num res=q at *
      generalize num a=q2 at *
      generalize num o=q3 at *
      omega
    have hwr:IntKind.u64.wrap (c+cy)=c+cy:=by rw[IntKind.wrap_u64];omega
    obtain⟨c',hc'⟩:∃c',c+cy=c':=⟨_,rfl⟩
    rw[hc'] at hwr hcc
    have HC:Keep _:=⟨hc'⟩
    have HW:Keep (IntKind.u64.wrap (c+cy)=c'):=⟨by rw[hc',hwr]⟩
    have HCC:Keep _:=⟨hcc⟩
    clear hc' hwr hcc
    refine wpAnyU_take (i:=7) (v:=(.int .u64 c')) HS.out (by rfl) (by kernel_rfl) (by kernel_rfl) (by kernel_rfl) (fun _ _ d _ _ h=>by cases d<;>exact h) hs5 (Steady.of_yields (Or.inl ⟨by rfl,fun w=>(by have h:=HW.out;go_simp)⟩)) ?_
    simp only[Act.put,List.setIfInBounds_toArray,List.set_cons_zero,List.set_cons_succ]
    refine wpAnyU_take (i:=9) (v:=_) HS.out (by rfl) (by kernel_rfl) (by kernel_rfl) (by kernel_rfl) (fun _ _ d _ _ h=>by cases d<;>exact h) hs5 (Steady.of_yields (Or.inl ⟨by rfl,fun w=>(by go_simp;with_reducible rfl)⟩)) ?_
    simp only[Act.put,List.setIfInBounds_toArray,List.set_cons_zero,List.set_cons_succ]
    refine wpAnyU_run (i:=10) (by rfl) (by kernel_rfl) (fun w6 hq=>?_)
    have hA6:=hA5.keep hq
    have hO6:=hO5.trans (Only.of_below hq g)
    have hs6:=seen_up _ _ hs5 hq
    clear hA5 hO5 hs5 hq
    refine store_word (by rfl) 22 (.tmp 15) (.tmp 13) (by rfl) (by rfl) g 6 (by rfl) .u64 c' (by rfl) (by kernel_rfl) t _ hA6 (by simp;have:=HNO.out.1;omega) _ (set_six HNO.out.1) (fun w9 hA9 ho=>?_)
    have hO9:=hO6.trans ho
    refine⟨seen_only hs6 ho h2g h3g,wpAnyU_end (by kernel_rfl) (fun w10 hq=>?_)⟩
    have hA10:=hA9.keep hq
    have hO10:=hO9.trans (Only.of_below hq g)
    go_wp2
    go_end0
    refine⟨rfl,o,c',hA10,HNO.out.1,HNO.out.2.1,HCC.out.1,HCC.out.2,?_,hO10⟩
    have h1:=HNO.out.2.2.1
    have h2:=HC.out
    grind
end Fp
end Go.Proofs.YtjamcbjghffboaaGreatDoor
