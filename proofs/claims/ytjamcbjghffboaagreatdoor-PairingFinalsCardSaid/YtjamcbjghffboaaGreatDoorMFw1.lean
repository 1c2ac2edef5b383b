/-
  Own text.
-/
import Derived.Test.YtjamcbjghffboaaGreatDoorMFpR
import Derived.Test.YtjamcbjghffboaaGreatDoorBits
import Derived.Test.YtjamcbjghffboaaGreatDoorMReg
import Derived.Test.YtjamcbjghffboaaGreatDoorLimbOwnD
set_option linter.unusedVariables false
set_option maxRecDepth 100000
namespace Go.Proofs.YtjamcbjghffboaaGreatDoor
namespace Fp
open Go Go.RowKit Reg Base Limb Bits
theorem addc_told (x y c:Int)(hx:0<=x/\x<=18446744073709551615)(hy:0<=y/\y<=18446744073709551615)(hc:0<=c/\c<=1) :
  ∃s d:Int,(∀w,(callFunc 130 #[.int .u64 x,.int .u64 y,.int .u64 c]).run Tryz.prog w=.ok (.value (.tuple #[.int .u64 s,.int .u64 d])) w) /\
   Keep (s+18446744073709551616*d=x+y+c)/\Keep (0<=s/\s<=18446744073709551615)/\(0<=d/\d<=1):=
 ⟨_,_,fun w=>addc_run x y c hx.1 hy.1 hc.1 hc.2 w,⟨by omega⟩,⟨by omega⟩,by omega⟩
theorem subc_told (x y c:Int)(hx:0<=x/\x<=18446744073709551615)(hy:0<=y/\y<=18446744073709551615)(hc:0<=c/\c<=1) :
  ∃s d:Int,(∀w,(callFunc 157 #[.int .u64 x,.int .u64 y,.int .u64 c]).run Tryz.prog w=.ok (.value (.tuple #[.int .u64 s,.int .u64 d])) w) /\
   Keep (s-18446744073709551616*d=x-y-c)/\Keep (0<=s/\s<=18446744073709551615)/\(0<=d/\d<=1):=by
 refine⟨_,_,fun w=>subc_run x y c hx.1 hy.1 hy.2 hc.1 hc.2 w,⟨?_⟩,⟨by omega⟩,?_⟩
 ·by_cases h:x<y+c
  ·rw[if_pos h];omega
  ·rw[if_neg h];omega
 ·by_cases h:x<y+c
  ·rw[if_pos h];omega
  ·rw[if_neg h];omega
theorem six_of {l:List Int}(h:l.length=6):∃a b c d e f,l=[a,b,c,d,e,f]:=by
 match l,h with
 |[a,b,c,d,e,f],_=>exact⟨a,b,c,d,e,f,rfl⟩
theorem words6 {a b c d e f:Int}(h:Words [a,b,c,d,e,f]):(0<=a/\a<=18446744073709551615)/\(0<=b/\b<=18446744073709551615)/\(0<=c/\c<=18446744073709551615)/\(0<=d/\d<=18446744073709551615)/\(0<=e/\e<=18446744073709551615)/\(0<=f/\f<=18446744073709551615):=
 ⟨h 0,h 1,h 2,h 3,h 4,h 5⟩
theorem words6_of {a b c d e f:Int}(h0:0<=a/\a<=18446744073709551615)(h1:0<=b/\b<=18446744073709551615)(h2:0<=c/\c<=18446744073709551615)(h3:0<=d/\d<=18446744073709551615)(h4:0<=e/\e<=18446744073709551615)(h5:0<=f/\f<=18446744073709551615):Words [a,b,c,d,e,f]:=
 words_of _ fun i hi=>by
  match i,hi with
  |0,_=>exact h0
  |1,_=>exact h1
  |2,_=>exact h2
  |3,_=>exact h3
  |4,_=>exact h4
  |5,_=>exact h5
theorem num_of6 (a b c d e f:Int):num [a,b,c,d,e,f]=a+18446744073709551616*b+0x100000000000000000000000000000000*c+0x1000000000000000000000000000000000000000000000000*d+0x10000000000000000000000000000000000000000000000000000000000000000*e+0x100000000000000000000000000000000000000000000000000000000000000000000000000000000*f:=by
 rw[num_cons,num_cons,num_cons,num_cons,num_cons,num_cons,num_nil];omega
theorem wp_six:wp 6=0x1000000000000000000000000000000000000000000000000000000000000000000000000000000000000000000000000:=by decide +kernel
set_option maxHeartbeats 2000000 in
theorem addTo_c (ga gb:Nat)(ta tb:TypeId)(a b:List Int)(hla:a.length=6)(hlb:b.length=6)(hwa:Words a)(hwb:Words b)(hne:ga≠gb)(w:World)(hA0:Has w ga ta (vals .u64 a))(hB0:Has w gb tb (vals .u64 b)) :
  Calls Tryz.prog 149 #[.pointer (some ⟨ga,0,none⟩),.pointer (some ⟨gb,0,none⟩)] w fun e w'=>e=.returned (.tuple #[])/\∃(o:List Int) (d:Int),Has w' ga ta (vals .u64 o)/\o.length=6/\Words o/\num o+wp 6*d=num a+num b/\0<=d/\d<=1/\Only ga w w':=by
 obtain⟨x0,x1,x2,x3,x4,x5,rfl⟩:=six_of hla
 obtain⟨y0,y1,y2,y3,y4,y5,rfl⟩:=six_of hlb
 obtain⟨bx0,bx1,bx2,bx3,bx4,bx5⟩:=words6 hwa
 obtain⟨by0,by1,by2,by3,by4,by5⟩:=words6 hwb
 clear hla hlb hwa hwb
 have hO0:Only ga w w:=Only.refl _ _
 obtain⟨s0,d0,run0,E0,B0,D0⟩:=addc_told x0 y0 0 bx0 by0 ⟨by omega,by omega⟩
 obtain⟨s1,d1,run1,E1,B1,D1⟩:=addc_told x1 y1 d0 bx1 by1 D0
 obtain⟨s2,d2,run2,E2,B2,D2⟩:=addc_told x2 y2 d1 bx2 by2 D1
 obtain⟨s3,d3,run3,E3,B3,D3⟩:=addc_told x3 y3 d2 bx3 by3 D2
 obtain⟨s4,d4,run4,E4,B4,D4⟩:=addc_told x4 y4 d3 bx4 by4 D3
 obtain⟨s5,d5,run5,E5,B5,D5⟩:=addc_told x5 y5 d4 bx5 by5 D4
 have EE:Keep _:=⟨And.intro E0.out (And.intro E1.out (And.intro E2.out (And.intro E3.out (And.intro E4.out E5.out))))⟩
 have BB:Keep _:=⟨words6_of B0.out B1.out B2.out B3.out B4.out B5.out⟩
 have DD:Keep _:=⟨D5⟩
 clear bx0 bx1 bx2 bx3 bx4 bx5 by0 by1 by2 by3 by4 by5 E0 E1 E2 E3 E4 E5 B0 B1 B2 B3 B4 B5 D0 D1 D2 D3 D4 D5
 go_enter Tryz.func149,Tryz.ntmps149
 go_wp2
 refine wp_write 15 (by rfl) (by kernel_rfl) (by kernel_rfl) (by kernel_rfl) (fun _ _ d _ _ h=>by cases d<;>exact h) (fun I hI' fw hf hback=>?_)
 simp only[List.take_succ_cons,List.take_zero]
 have ca:∀j,(fw j).cell? ⟨ga,0,none⟩=some (.int .u64 x0):=fun j=>(hA0.keep (hf j)).val (i:=0) (by simp)
 have cb:∀j,(fw j).cell? ⟨gb,0,none⟩=some (.int .u64 y0):=fun j=>(hB0.keep (hf j)).val (i:=0) (by simp)
 repeat (go_big_quiet_step (fail))
 refine wpQuiet_nil ?_
 intro w1 hq
 clear ca cb hf hback run0
 have co:=(hA0.keep hq).val (i:=0) (by simp)
 have zo:=(hA0.keep hq).frozen 0
 obtain⟨v1,hv⟩:∃v,w1.setCell ⟨ga,0,none⟩ (.int .u64 s0)=v:=⟨_,rfl⟩
 have hA1:Has v1 ga ta (vals .u64 [s0,x1,x2,x3,x4,x5]):=by rw[<-hv];exact (hA0.keep hq).set_ 0 (.int .u64 s0)
 have hB1:Has v1 gb tb (vals .u64 [y0,y1,y2,y3,y4,y5]):=by rw[<-hv];exact (hB0.keep hq).far (p:=⟨ga,0,none⟩) hne.symm _
 have hO1:Only ga w v1:=by rw[<-hv];exact (hO0.trans (Only.of_below hq ga)).set_ (p:=⟨ga,0,none⟩) rfl _
 clear hA0 hB0 hO0 hq
 go_wp2
 clear hv co zo w1
 go_wp2
 refine wp_write 16 (by rfl) (by kernel_rfl) (by kernel_rfl) (by kernel_rfl) (fun _ _ d _ _ h=>by cases d<;>exact h) (fun I hI' fw hf hback=>?_)
 simp only[List.take_succ_cons,List.take_zero]
 have ca:∀j,(fw j).cell? ⟨ga,1,none⟩=some (.int .u64 x1):=fun j=>(hA1.keep (hf j)).val (i:=1) (by simp)
 have cb:∀j,(fw j).cell? ⟨gb,1,none⟩=some (.int .u64 y1):=fun j=>(hB1.keep (hf j)).val (i:=1) (by simp)
 repeat (go_big_quiet_step (fail))
 refine wpQuiet_nil ?_
 intro w2 hq
 clear ca cb hf hback run1
 have co:=(hA1.keep hq).val (i:=1) (by simp)
 have zo:=(hA1.keep hq).frozen 1
 obtain⟨v2,hv⟩:∃v,w2.setCell ⟨ga,1,none⟩ (.int .u64 s1)=v:=⟨_,rfl⟩
 have hA2:Has v2 ga ta (vals .u64 [s0,s1,x2,x3,x4,x5]):=by rw[<-hv];exact (hA1.keep hq).set_ 1 (.int .u64 s1)
 have hB2:Has v2 gb tb (vals .u64 [y0,y1,y2,y3,y4,y5]):=by rw[<-hv];exact (hB1.keep hq).far (p:=⟨ga,1,none⟩) hne.symm _
 have hO2:Only ga w v2:=by rw[<-hv];exact (hO1.trans (Only.of_below hq ga)).set_ (p:=⟨ga,1,none⟩) rfl _
 clear hA1 hB1 hO1 hq
 go_wp2
 clear hv co zo w2
 go_wp2
 refine wp_write 16 (by rfl) (by kernel_rfl) (by kernel_rfl) (by kernel_rfl) (fun _ _ d _ _ h=>by cases d<;>exact h) (fun I hI' fw hf hback=>?_)
 simp only[List.take_succ_cons,List.take_zero]
 have ca:∀j,(fw j).cell? ⟨ga,2,none⟩=some (.int .u64 x2):=fun j=>(hA2.keep (hf j)).val (i:=2) (by simp)
 have cb:∀j,(fw j).cell? ⟨gb,2,none⟩=some (.int .u64 y2):=fun j=>(hB2.keep (hf j)).val (i:=2) (by simp)
 repeat (go_big_quiet_step (fail))
 refine wpQuiet_nil ?_
 intro w3 hq
 clear ca cb hf hback run2
 have co:=(hA2.keep hq).val (i:=2) (by simp)
 have zo:=(hA2.keep hq).frozen 2
 obtain⟨v3,hv⟩:∃v,w3.setCell ⟨ga,2,none⟩ (.int .u64 s2)=v:=⟨_,rfl⟩
 have hA3:Has v3 ga ta (vals .u64 [s0,s1,s2,x3,x4,x5]):=by rw[<-hv];exact (hA2.keep hq).set_ 2 (.int .u64 s2)
 have hB3:Has v3 gb tb (vals .u64 [y0,y1,y2,y3,y4,y5]):=by rw[<-hv];exact (hB2.keep hq).far (p:=⟨ga,2,none⟩) hne.symm _
 have hO3:Only ga w v3:=by rw[<-hv];exact (hO2.trans (Only.of_below hq ga)).set_ (p:=⟨ga,2,none⟩) rfl _
 clear hA2 hB2 hO2 hq
 go_wp2
 clear hv co zo w3
 go_wp2
 refine wp_write 16 (by rfl) (by kernel_rfl) (by kernel_rfl) (by kernel_rfl) (fun _ _ d _ _ h=>by cases d<;>exact h) (fun I hI' fw hf hback=>?_)
 simp only[List.take_succ_cons,List.take_zero]
 have ca:∀j,(fw j).cell? ⟨ga,3,none⟩=some (.int .u64 x3):=fun j=>(hA3.keep (hf j)).val (i:=3) (by simp)
 have cb:∀j,(fw j).cell? ⟨gb,3,none⟩=some (.int .u64 y3):=fun j=>(hB3.keep (hf j)).val (i:=3) (by simp)
 repeat (go_big_quiet_step (fail))
 refine wpQuiet_nil ?_
 intro w4 hq
 clear ca cb hf hback run3
 have co:=(hA3.keep hq).val (i:=3) (by simp)
 have zo:=(hA3.keep hq).frozen 3
 obtain⟨v4,hv⟩:∃v,w4.setCell ⟨ga,3,none⟩ (.int .u64 s3)=v:=⟨_,rfl⟩
 have hA4:Has v4 ga ta (vals .u64 [s0,s1,s2,s3,x4,x5]):=by rw[<-hv];exact (hA3.keep hq).set_ 3 (.int .u64 s3)
 have hB4:Has v4 gb tb (vals .u64 [y0,y1,y2,y3,y4,y5]):=by rw[<-hv];exact (hB3.keep hq).far (p:=⟨ga,3,none⟩) hne.symm _
 have hO4:Only ga w v4:=by rw[<-hv];exact (hO3.trans (Only.of_below hq ga)).set_ (p:=⟨ga,3,none⟩) rfl _
 clear hA3 hB3 hO3 hq
 go_wp2
 clear hv co zo w4
 go_wp2
 refine wp_write 16 (by rfl) (by kernel_rfl) (by kernel_rfl) (by kernel_rfl) (fun _ _ d _ _ h=>by cases d<;>exact h) (fun I hI' fw hf hback=>?_)
 simp only[List.take_succ_cons,List.take_zero]
 have ca:∀j,(fw j).cell? ⟨ga,4,none⟩=some (.int .u64 x4):=fun j=>(hA4.keep (hf j)).val (i:=4) (by simp)
 have cb:∀j,(fw j).cell? ⟨gb,4,none⟩=some (.int .u64 y4):=fun j=>(hB4.keep (hf j)).val (i:=4) (by simp)
 repeat (go_big_quiet_step (fail))
 refine wpQuiet_nil ?_
 intro w5 hq
 clear ca cb hf hback run4
 have co:=(hA4.keep hq).val (i:=4) (by simp)
 have zo:=(hA4.keep hq).frozen 4
 obtain⟨v5,hv⟩:∃v,w5.setCell ⟨ga,4,none⟩ (.int .u64 s4)=v:=⟨_,rfl⟩
 have hA5:Has v5 ga ta (vals .u64 [s0,s1,s2,s3,s4,x5]):=by rw[<-hv];exact (hA4.keep hq).set_ 4 (.int .u64 s4)
 have hB5:Has v5 gb tb (vals .u64 [y0,y1,y2,y3,y4,y5]):=by rw[<-hv];exact (hB4.keep hq).far (p:=⟨ga,4,none⟩) hne.symm _
 have hO5:Only ga w v5:=by rw[<-hv];exact (hO4.trans (Only.of_below hq ga)).set_ (p:=⟨ga,4,none⟩) rfl _
 clear hA4 hB4 hO4 hq
 go_wp2
 clear hv co zo w5
 go_wp2
 refine wp_write 16 (by rfl) (by kernel_rfl) (by kernel_rfl) (by kernel_rfl) (fun _ _ d _ _ h=>by cases d<;>exact h) (fun I hI' fw hf hback=>?_)
 simp only[List.take_succ_cons,List.take_zero]
 have ca:∀j,(fw j).cell? ⟨ga,5,none⟩=some (.int .u64 x5):=fun j=>(hA5.keep (hf j)).val (i:=5) (by simp)
 have cb:∀j,(fw j).cell? ⟨gb,5,none⟩=some (.int .u64 y5):=fun j=>(hB5.keep (hf j)).val (i:=5) (by simp)
 repeat (go_big_quiet_step (fail))
 refine wpQuiet_nil ?_
 intro w6 hq
 clear ca cb hf hback run5
 have co:=(hA5.keep hq).val (i:=5) (by simp)
 have zo:=(hA5.keep hq).frozen 5
 obtain⟨v6,hv⟩:∃v,w6.setCell ⟨ga,5,none⟩ (.int .u64 s5)=v:=⟨_,rfl⟩
 have hA6:Has v6 ga ta (vals .u64 [s0,s1,s2,s3,s4,s5]):=by rw[<-hv];exact (hA5.keep hq).set_ 5 (.int .u64 s5)
 have hB6:Has v6 gb tb (vals .u64 [y0,y1,y2,y3,y4,y5]):=by rw[<-hv];exact (hB5.keep hq).far (p:=⟨ga,5,none⟩) hne.symm _
 have hO6:Only ga w v6:=by rw[<-hv];exact (hO5.trans (Only.of_below hq ga)).set_ (p:=⟨ga,5,none⟩) rfl _
 clear hA5 hB5 hO5 hq
 go_wp2
 clear hv co zo w6
 go_end0
 refine⟨rfl,[s0,s1,s2,s3,s4,s5],d5,hA6,rfl,BB.out,?_,DD.out.1,DD.out.2,hO6⟩
 have:=EE.out
 rw[num_of6,num_of6,num_of6,wp_six]
 omega
set_option maxHeartbeats 2000000 in
theorem takeFrom_c (ga gb:Nat)(ta tb:TypeId)(a b:List Int)(hla:a.length=6)(hlb:b.length=6)(hwa:Words a)(hwb:Words b)(hne:ga≠gb)(w:World)(hA0:Has w ga ta (vals .u64 a))(hB0:Has w gb tb (vals .u64 b)) :
  Calls Tryz.prog 148 #[.pointer (some ⟨ga,0,none⟩),.pointer (some ⟨gb,0,none⟩)] w fun e w'=>∃(o:List Int) (d:Int),e=.returned (.int .u64 d)/\Has w' ga ta (vals .u64 o)/\o.length=6/\Words o/\num o-wp 6*d=num a-num b/\0<=d/\d<=1/\Only ga w w':=by
 obtain⟨x0,x1,x2,x3,x4,x5,rfl⟩:=six_of hla
 obtain⟨y0,y1,y2,y3,y4,y5,rfl⟩:=six_of hlb
 obtain⟨bx0,bx1,bx2,bx3,bx4,bx5⟩:=words6 hwa
 obtain⟨by0,by1,by2,by3,by4,by5⟩:=words6 hwb
 clear hla hlb hwa hwb
 have hO0:Only ga w w:=Only.refl _ _
 obtain⟨s0,d0,run0,E0,B0,D0⟩:=subc_told x0 y0 0 bx0 by0 ⟨by omega,by omega⟩
 obtain⟨s1,d1,run1,E1,B1,D1⟩:=subc_told x1 y1 d0 bx1 by1 D0
 obtain⟨s2,d2,run2,E2,B2,D2⟩:=subc_told x2 y2 d1 bx2 by2 D1
 obtain⟨s3,d3,run3,E3,B3,D3⟩:=subc_told x3 y3 d2 bx3 by3 D2
 obtain⟨s4,d4,run4,E4,B4,D4⟩:=subc_told x4 y4 d3 bx4 by4 D3
 obtain⟨s5,d5,run5,E5,B5,D5⟩:=subc_told x5 y5 d4 bx5 by5 D4
 have EE:Keep _:=⟨And.intro E0.out (And.intro E1.out (And.intro E2.out (And.intro E3.out (And.intro E4.out E5.out))))⟩
 have BB:Keep _:=⟨words6_of B0.out B1.out B2.out B3.out B4.out B5.out⟩
 have DD:Keep _:=⟨D5⟩
 clear bx0 bx1 bx2 bx3 bx4 bx5 by0 by1 by2 by3 by4 by5 E0 E1 E2 E3 E4 E5 B0 B1 B2 B3 B4 B5 D0 D1 D2 D3 D4 D5
 go_enter Tryz.func148,Tryz.ntmps148
 go_wp2
 refine wp_write 15 (by rfl) (by kernel_rfl) (by kernel_rfl) (by kernel_rfl) (fun _ _ d _ _ h=>by cases d<;>exact h) (fun I hI' fw hf hback=>?_)
 simp only[List.take_succ_cons,List.take_zero]
 have ca:∀j,(fw j).cell? ⟨ga,0,none⟩=some (.int .u64 x0):=fun j=>(hA0.keep (hf j)).val (i:=0) (by simp)
 have cb:∀j,(fw j).cell? ⟨gb,0,none⟩=some (.int .u64 y0):=fun j=>(hB0.keep (hf j)).val (i:=0) (by simp)
 repeat (go_big_quiet_step (fail))
 refine wpQuiet_nil ?_
 intro w1 hq
 clear ca cb hf hback run0
 have co:=(hA0.keep hq).val (i:=0) (by simp)
 have zo:=(hA0.keep hq).frozen 0
 obtain⟨v1,hv⟩:∃v,w1.setCell ⟨ga,0,none⟩ (.int .u64 s0)=v:=⟨_,rfl⟩
 have hA1:Has v1 ga ta (vals .u64 [s0,x1,x2,x3,x4,x5]):=by rw[<-hv];exact (hA0.keep hq).set_ 0 (.int .u64 s0)
 have hB1:Has v1 gb tb (vals .u64 [y0,y1,y2,y3,y4,y5]):=by rw[<-hv];exact (hB0.keep hq).far (p:=⟨ga,0,none⟩) hne.symm _
 have hO1:Only ga w v1:=by rw[<-hv];exact (hO0.trans (Only.of_below hq ga)).set_ (p:=⟨ga,0,none⟩) rfl _
 clear hA0 hB0 hO0 hq
 go_wp2
 clear hv co zo w1
 go_wp2
 refine wp_write 16 (by rfl) (by kernel_rfl) (by kernel_rfl) (by kernel_rfl) (fun _ _ d _ _ h=>by cases d<;>exact h) (fun I hI' fw hf hback=>?_)
 simp only[List.take_succ_cons,List.take_zero]
 have ca:∀j,(fw j).cell? ⟨ga,1,none⟩=some (.int .u64 x1):=fun j=>(hA1.keep (hf j)).val (i:=1) (by simp)
 have cb:∀j,(fw j).cell? ⟨gb,1,none⟩=some (.int .u64 y1):=fun j=>(hB1.keep (hf j)).val (i:=1) (by simp)
 repeat (go_big_quiet_step (fail))
 refine wpQuiet_nil ?_
 intro w2 hq
 clear ca cb hf hback run1
 have co:=(hA1.keep hq).val (i:=1) (by simp)
 have zo:=(hA1.keep hq).frozen 1
 obtain⟨v2,hv⟩:∃v,w2.setCell ⟨ga,1,none⟩ (.int .u64 s1)=v:=⟨_,rfl⟩
 have hA2:Has v2 ga ta (vals .u64 [s0,s1,x2,x3,x4,x5]):=by rw[<-hv];exact (hA1.keep hq).set_ 1 (.int .u64 s1)
 have hB2:Has v2 gb tb (vals .u64 [y0,y1,y2,y3,y4,y5]):=by rw[<-hv];exact (hB1.keep hq).far (p:=⟨ga,1,none⟩) hne.symm _
 have hO2:Only ga w v2:=by rw[<-hv];exact (hO1.trans (Only.of_below hq ga)).set_ (p:=⟨ga,1,none⟩) rfl _
 clear hA1 hB1 hO1 hq
 go_wp2
 clear hv co zo w2
 go_wp2
 refine wp_write 16 (by rfl) (by kernel_rfl) (by kernel_rfl) (by kernel_rfl) (fun _ _ d _ _ h=>by cases d<;>exact h) (fun I hI' fw hf hback=>?_)
 simp only[List.take_succ_cons,List.take_zero]
 have ca:∀j,(fw j).cell? ⟨ga,2,none⟩=some (.int .u64 x2):=fun j=>(hA2.keep (hf j)).val (i:=2) (by simp)
 have cb:∀j,(fw j).cell? ⟨gb,2,none⟩=some (.int .u64 y2):=fun j=>(hB2.keep (hf j)).val (i:=2) (by simp)
 repeat (go_big_quiet_step (fail))
 refine wpQuiet_nil ?_
 intro w3 hq
 clear ca cb hf hback run2
 have co:=(hA2.keep hq).val (i:=2) (by simp)
 have zo:=(hA2.keep hq).frozen 2
 obtain⟨v3,hv⟩:∃v,w3.setCell ⟨ga,2,none⟩ (.int .u64 s2)=v:=⟨_,rfl⟩
 have hA3:Has v3 ga ta (vals .u64 [s0,s1,s2,x3,x4,x5]):=by rw[<-hv];exact (hA2.keep hq).set_ 2 (.int .u64 s2)
 have hB3:Has v3 gb tb (vals .u64 [y0,y1,y2,y3,y4,y5]):=by rw[<-hv];exact (hB2.keep hq).far (p:=⟨ga,2,none⟩) hne.symm _
 have hO3:Only ga w v3:=by rw[<-hv];exact (hO2.trans (Only.of_below hq ga)).set_ (p:=⟨ga,2,none⟩) rfl _
 clear hA2 hB2 hO2 hq
 go_wp2
 clear hv co zo w3
 go_wp2
 refine wp_write 16 (by rfl) (by kernel_rfl) (by kernel_rfl) (by kernel_rfl) (fun _ _ d _ _ h=>by cases d<;>exact h) (fun I hI' fw hf hback=>?_)
 simp only[List.take_succ_cons,List.take_zero]
 have ca:∀j,(fw j).cell? ⟨ga,3,none⟩=some (.int .u64 x3):=fun j=>(hA3.keep (hf j)).val (i:=3) (by simp)
 have cb:∀j,(fw j).cell? ⟨gb,3,none⟩=some (.int .u64 y3):=fun j=>(hB3.keep (hf j)).val (i:=3) (by simp)
 repeat (go_big_quiet_step (fail))
 refine wpQuiet_nil ?_
 intro w4 hq
 clear ca cb hf hback run3
 have co:=(hA3.keep hq).val (i:=3) (by simp)
 have zo:=(hA3.keep hq).frozen 3
 obtain⟨v4,hv⟩:∃v,w4.setCell ⟨ga,3,none⟩ (.int .u64 s3)=v:=⟨_,rfl⟩
 have hA4:Has v4 ga ta (vals .u64 [s0,s1,s2,s3,x4,x5]):=by rw[<-hv];exact (hA3.keep hq).set_ 3 (.int .u64 s3)
 have hB4:Has v4 gb tb (vals .u64 [y0,y1,y2,y3,y4,y5]):=by rw[<-hv];exact (hB3.keep hq).far (p:=⟨ga,3,none⟩) hne.symm _
 have hO4:Only ga w v4:=by rw[<-hv];exact (hO3.trans (Only.of_below hq ga)).set_ (p:=⟨ga,3,none⟩) rfl _
 clear hA3 hB3 hO3 hq
 go_wp2
 clear hv co zo w4
 go_wp2
 refine wp_write 16 (by rfl) (by kernel_rfl) (by kernel_rfl) (by kernel_rfl) (fun _ _ d _ _ h=>by cases d<;>exact h) (fun I hI' fw hf hback=>?_)
 simp only[List.take_succ_cons,List.take_zero]
 have ca:∀j,(fw j).cell? ⟨ga,4,none⟩=some (.int .u64 x4):=fun j=>(hA4.keep (hf j)).val (i:=4) (by simp)
 have cb:∀j,(fw j).cell? ⟨gb,4,none⟩=some (.int .u64 y4):=fun j=>(hB4.keep (hf j)).val (i:=4) (by simp)
 repeat (go_big_quiet_step (fail))
 refine wpQuiet_nil ?_
 intro w5 hq
 clear ca cb hf hback run4
 have co:=(hA4.keep hq).val (i:=4) (by simp)
 have zo:=(hA4.keep hq).frozen 4
 obtain⟨v5,hv⟩:∃v,w5.setCell ⟨ga,4,none⟩ (.int .u64 s4)=v:=⟨_,rfl⟩
 have hA5:Has v5 ga ta (vals .u64 [s0,s1,s2,s3,s4,x5]):=by rw[<-hv];exact (hA4.keep hq).set_ 4 (.int .u64 s4)
 have hB5:Has v5 gb tb (vals .u64 [y0,y1,y2,y3,y4,y5]):=by rw[<-hv];exact (hB4.keep hq).far (p:=⟨ga,4,none⟩) hne.symm _
 have hO5:Only ga w v5:=by rw[<-hv];exact (hO4.trans (Only.of_below hq ga)).set_ (p:=⟨ga,4,none⟩) rfl _
 clear hA4 hB4 hO4 hq
 go_wp2
 clear hv co zo w5
 go_wp2
 refine wp_write 16 (by rfl) (by kernel_rfl) (by kernel_rfl) (by kernel_rfl) (fun _ _ d _ _ h=>by cases d<;>exact h) (fun I hI' fw hf hback=>?_)
 simp only[List.take_succ_cons,List.take_zero]
 have ca:∀j,(fw j).cell? ⟨ga,5,none⟩=some (.int .u64 x5):=fun j=>(hA5.keep (hf j)).val (i:=5) (by simp)
 have cb:∀j,(fw j).cell? ⟨gb,5,none⟩=some (.int .u64 y5):=fun j=>(hB5.keep (hf j)).val (i:=5) (by simp)
 repeat (go_big_quiet_step (fail))
 refine wpQuiet_nil ?_
 intro w6 hq
 clear ca cb hf hback run5
 have co:=(hA5.keep hq).val (i:=5) (by simp)
 have zo:=(hA5.keep hq).frozen 5
 obtain⟨v6,hv⟩:∃v,w6.setCell ⟨ga,5,none⟩ (.int .u64 s5)=v:=⟨_,rfl⟩
 have hA6:Has v6 ga ta (vals .u64 [s0,s1,s2,s3,s4,s5]):=by rw[<-hv];exact (hA5.keep hq).set_ 5 (.int .u64 s5)
 have hB6:Has v6 gb tb (vals .u64 [y0,y1,y2,y3,y4,y5]):=by rw[<-hv];exact (hB5.keep hq).far (p:=⟨ga,5,none⟩) hne.symm _
 have hO6:Only ga w v6:=by rw[<-hv];exact (hO5.trans (Only.of_below hq ga)).set_ (p:=⟨ga,5,none⟩) rfl _
 clear hA5 hB5 hO5 hq
 go_wp2
 clear hv co zo w6
 go_ret
 refine⟨[s0,s1,s2,s3,s4,s5],d5,rfl,hA6,rfl,BB.out,?_,DD.out.1,DD.out.2,hO6⟩
 have:=EE.out
 rw[num_of6,num_of6,num_of6,wp_six]
 omega
end Fp
namespace Fp
open Go Go.RowKit Reg Base Limb Bits
def rL:List Int:=[8505329371266088957,17002214543764226050,6865905132761471162,8632934651105793861,6631298214892334189,1582556514881692819,4807590280750076774,8612159356199394243,12878354973820563945,2337167537087690866,6431483094484234427,293241525500371865,10843886736844221597,4986109583520628558,9383303180058691654,1580741160401819599,18066133864166594236,201357114324440772,11396969636769438951,14906441553275738803,11575976719427520033,16041729168491046160,17227550989889470529,1634297007776406087,530084278580445711,4523507806283684619,1624132434792508366,9756551939738585554,1581692023382530096,1123129913263140485,18197539513313378263,5220802458584164551,14995588168058310184,2582428486095855617,11648352368840172979,145533648938993496]
structure Glob (w:World):Prop where
 p:∃t,Has w 5 t (vals .u64 pL)
 r:∃t,Has w 6 t (vals .u64 rL)
structure Free (g:Nat):Prop where
 p:g≠5
 r:g≠6
section
variable {w w':World} {g:Nat}
theorem Glob.keep (h:Glob w)(hb:Below w.heap.size w w'):Glob w':=
 ⟨h.p.imp fun _ h=>h.keep hb,h.r.imp fun _ h=>h.keep hb⟩
theorem Glob.only (h:Glob w)(hb:Only g w w')(hf:Free g):Glob w':=
 ⟨h.p.imp fun _ h=>hb.has h hf.p.symm,h.r.imp fun _ h=>hb.has h hf.r.symm⟩
theorem Glob.free (h:Glob w)(hg:w.heap.size<=g):Free g:=by
 obtain⟨_,hp⟩:=h.p
 obtain⟨_,hr⟩:=h.r
 have:=hp.lt
 have:=hr.lt
 exact⟨by omega,by omega⟩
theorem only_row (g:Nat)(w:World)(cs:Array Value):Only g w (w.setRow g cs):=
 ⟨rfl,rfl,rfl,by simp,fun k _ hne=>setRow_other w g k cs hne⟩
theorem only_drew (h:Only g w w'):Only g w w'.drew:=⟨h.os,h.tape,h.output,h.size,h.block⟩
end
theorem wpList_of_yields {P:Program}{ops:Array Oper}{Q:Exit->Act->World->Prop}{o:Oper}{rest:List Oper}{v:Value}{a:Act}{w:World}(hy:Yields P ops o v a)(h:wpList P ops Q rest (a.put o.dst v) w):wpList P ops Q (o :: rest) a w:=by
 unfold wpList
 rcases hy with ⟨hw,hv⟩|⟨hw,rfl⟩
 ·rw[if_pos hw]
  refine .inl ?_
  unfold Oper.wp
  rw[hv w]
  exact h
 ·rw[if_neg (by rw[hw];simp)]
  exact h
theorem store_word {P:Program}{w:World}{ops:Array Oper}{rest:List Oper}{o:Oper}{a:Act}{Q:Exit->Act->World->Prop}(hgd:o.guard=none)(ty:TypeId)(x y:Operand)(ho:o.op=.store ty x y)
  (hd:o.dst=none) (g i:Nat) (hx:a.eval x=.pointer (some ⟨g,i,none⟩)) (k:IntKind) (v:Int) (hy:a.eval y=.int k v) (hty:(P.info? ty).map (·.size)=some 1)
  (t:TypeId) (xs:List Int) (hg:Has w g t (vals k xs)) (hi:i<xs.length) (ys:List Int) (hys:xs.set i v=ys)
  (h:∀w',Has w' g t (vals k ys)->Only g w w'->wpList P ops Q rest a w'):wpList P ops Q (o :: rest) a w:=by
 refine wpList_plain hgd fun K hK=>?_
 have hst:=run_storeCells_at P g i t [Value.int k v] 0 (vals k xs) w hg.eq (by rw[vals_size];simp;omega) (fun u hu=>by
  obtain rfl:u=Value.int k v:=by simpa using hu
  rfl)
 have hcells:((vals k xs).toList.take (i+0)++[Value.int k v]++(vals k xs).toList.drop (i+0+[Value.int k v].length)).toArray=vals k ys:=by
  subst hys
  simp only[vals,Nat.add_zero,List.length_singleton,List.map_set]
  congr 1
  rw[List.set_eq_take_append_cons_drop,if_pos (by simpa using hi),List.append_assoc]
  rfl
 rw[hcells] at hst
 cases hq:P.info? ty with
 |none=>simp[hq] at hty
 |some inf=>
  have hs:inf.size=1:=by simpa [hq] using hty
  have hrun:(storeVar ty ⟨g,i,none⟩ (.int k v)).run P w=.ok () (w.setRow g (vals k ys)):=by
   simp[storeVar,sizeOf,typeInfo,hq,Value.cells,hs,hst]
  unfold Oper.wp execOp
  simp only[ho,hx,hy,Instr.storeAt,Instr.sureAddr,Sem.run_bind,Sem.run_pure,Result.andThen_ok,hrun]
  refine hK _ _ ?_
  rw[hd]
  exact h _ (hg.row _) (only_row g w _)
set_option maxHeartbeats 4000000 in
theorem takeOnce_c (g:Nat)(t:TypeId)(a r:List Int)(hla:a.length=6)(hwa:Words a)(hf:Free g)(w:World)(hG:Glob w)(hA0:Has w g t (vals .u64 (a++r))) :
    Calls Tryz.prog 153 #[.pointer (some ⟨g,0,none⟩)] w fun e w'=>e=.returned (.tuple #[])/\∃o:List Int,Has w' g t (vals .u64 (o++r))/\o.length=6/\Words o/\num o=(if num a<PP then num a else num a-PP)/\Only g w w':=by
  obtain⟨x0,x1,x2,x3,x4,x5,rfl⟩:=six_of hla
  obtain⟨bx0,bx1,bx2,bx3,bx4,bx5⟩:=words6 hwa
  have WA:Keep _:=⟨hwa⟩
  obtain⟨tp,hP0⟩:=hG.p
  have hb0:Below w.heap.size w w:=Below.refl _ _
  clear hla hwa hG
  obtain⟨s0,d0,run0,E0,B0,D0⟩:=subc_told x0 13402431016077863595 0 bx0 ⟨by omega,by omega⟩ ⟨by omega,by omega⟩
  obtain⟨s1,d1,run1,E1,B1,D1⟩:=subc_told x1 2210141511517208575 d0 bx1 ⟨by omega,by omega⟩ D0
  obtain⟨s2,d2,run2,E2,B2,D2⟩:=subc_told x2 7435674573564081700 d1 bx2 ⟨by omega,by omega⟩ D1
  obtain⟨s3,d3,run3,E3,B3,D3⟩:=subc_told x3 7239337960414712511 d2 bx3 ⟨by omega,by omega⟩ D2
  obtain⟨s4,d4,run4,E4,B4,D4⟩:=subc_told x4 5412103778470702295 d3 bx4 ⟨by omega,by omega⟩ D3
  obtain⟨s5,d5,run5,E5,B5,D5⟩:=subc_told x5 1873798617647539866 d4 bx5 ⟨by omega,by omega⟩ D4
  have hd:(num [x0,x1,x2,x3,x4,x5]<PP->d5=1)/\(PP<=num [x0,x1,x2,x3,x4,x5]->d5=0/\num [s0,s1,s2,s3,s4,s5]=num [x0,x1,x2,x3,x4,x5]-PP):=by
    have h0:=E0.out
    have h1:=E1.out
    have h2:=E2.out
    have h3:=E3.out
    have h4:=E4.out
    have h5:=E5.out
    have g0:=B0.out
    have g1:=B1.out
    have g2:=B2.out
    have g3:=B3.out
    have g4:=B4.out
    have g5:=B5.out
    have e:num [s0,s1,s2,s3,s4,s5]-wp 6*d5=num [x0,x1,x2,x3,x4,x5]-PP:=by
      rw[num_of6,num_of6,wp_six,PP]
      omega
    have n1:=num6 (words6_of g0 g1 g2 g3 g4 g5) rfl
    have n2:=num6 WA.out rfl
    have hp:=PP_lt
    rw[wp_six] at e n1 n2 hp
    generalize num [s0,s1,s2,s3,s4,s5]=S at *
    generalize num [x0,x1,x2,x3,x4,x5]=X at *
    clear h0 h1 h2 h3 h4 h5 g0 g1 g2 g3 g4 g5
    constructor<;>intro h<;>omega
  have HD:Keep _:=⟨hd⟩
  have BB:Keep _:=⟨words6_of B0.out B1.out B2.out B3.out B4.out B5.out⟩
  clear hd bx0 bx1 bx2 bx3 bx4 bx5 E0 E1 E2 E3 E4 E5 B0 B1 B2 B3 B4 B5 D0 D1 D2 D3 D4
  obtain⟨N,hN⟩:∃N,(if num [x0,x1,x2,x3,x4,x5]<PP then num [x0,x1,x2,x3,x4,x5] else num [x0,x1,x2,x3,x4,x5]-PP)=N:=⟨_,rfl⟩
  rw[hN]
  have HNN:Keep _:=⟨hN⟩
  clear hN
  have HF:Keep _:=⟨hf⟩
  clear hf
  go_enter Tryz.func153,Tryz.ntmps153
  go_wp2
  refine wp_fam_all (by kernel_rfl) (by kernel_rfl) (fun I hI' fw hf hback=>?_)
  have ca:∀j,(fw j).cell? ⟨g,0,none⟩=some (.int .u64 x0):=fun j=>(hA0.keep (hf j)).val (i:=0) (by simp<;>omega)
  have cp:∀j,(fw j).cell? ⟨5,0,none⟩=some (.int .u64 13402431016077863595):=fun j=>(hP0.keep (hf j)).val (i:=0) (by decide)
  repeat (go_big_quiet_step (fail))
  refine wpQuiet_nil ?_
  intro w1 hq
  have hA1:=hA0.keep hq
  have hP1:=hP0.keep hq
  have hb1:=hb0.trans (hq.mono hb0.size)
  clear ca cp hf hback run0 hq hA0 hP0 hb0
  go_wp2
  refine wp_fam_all (by kernel_rfl) (by kernel_rfl) (fun I hI' fw hf hback=>?_)
  have ca:∀j,(fw j).cell? ⟨g,1,none⟩=some (.int .u64 x1):=fun j=>(hA1.keep (hf j)).val (i:=1) (by simp<;>omega)
  have cp:∀j,(fw j).cell? ⟨5,1,none⟩=some (.int .u64 2210141511517208575):=fun j=>(hP1.keep (hf j)).val (i:=1) (by decide)
  repeat (go_big_quiet_step (fail))
  refine wpQuiet_nil ?_
  intro w2 hq
  have hA2:=hA1.keep hq
  have hP2:=hP1.keep hq
  have hb2:=hb1.trans (hq.mono hb1.size)
  clear ca cp hf hback run1 hq hA1 hP1 hb1
  go_wp2
  refine wp_fam_all (by kernel_rfl) (by kernel_rfl) (fun I hI' fw hf hback=>?_)
  have ca:∀j,(fw j).cell? ⟨g,2,none⟩=some (.int .u64 x2):=fun j=>(hA2.keep (hf j)).val (i:=2) (by simp<;>omega)
  have cp:∀j,(fw j).cell? ⟨5,2,none⟩=some (.int .u64 7435674573564081700):=fun j=>(hP2.keep (hf j)).val (i:=2) (by decide)
  repeat (go_big_quiet_step (fail))
  refine wpQuiet_nil ?_
  intro w3 hq
  have hA3:=hA2.keep hq
  have hP3:=hP2.keep hq
  have hb3:=hb2.trans (hq.mono hb2.size)
  clear ca cp hf hback run2 hq hA2 hP2 hb2
  go_wp2
  refine wp_fam_all (by kernel_rfl) (by kernel_rfl) (fun I hI' fw hf hback=>?_)
  have ca:∀j,(fw j).cell? ⟨g,3,none⟩=some (.int .u64 x3):=fun j=>(hA3.keep (hf j)).val (i:=3) (by simp<;>omega)
  have cp:∀j,(fw j).cell? ⟨5,3,none⟩=some (.int .u64 7239337960414712511):=fun j=>(hP3.keep (hf j)).val (i:=3) (by decide)
  repeat (go_big_quiet_step (fail))
  refine wpQuiet_nil ?_
  intro w4 hq
  have hA4:=hA3.keep hq
  have hP4:=hP3.keep hq
  have hb4:=hb3.trans (hq.mono hb3.size)
  clear ca cp hf hback run3 hq hA3 hP3 hb3
  go_wp2
  refine wp_fam_all (by kernel_rfl) (by kernel_rfl) (fun I hI' fw hf hback=>?_)
  have ca:∀j,(fw j).cell? ⟨g,4,none⟩=some (.int .u64 x4):=fun j=>(hA4.keep (hf j)).val (i:=4) (by simp<;>omega)
  have cp:∀j,(fw j).cell? ⟨5,4,none⟩=some (.int .u64 5412103778470702295):=fun j=>(hP4.keep (hf j)).val (i:=4) (by decide)
  repeat (go_big_quiet_step (fail))
  refine wpQuiet_nil ?_
  intro w5 hq
  have hA5:=hA4.keep hq
  have hP5:=hP4.keep hq
  have hb5:=hb4.trans (hq.mono hb4.size)
  clear ca cp hf hback run4 hq hA4 hP4 hb4
  go_wp2
  refine wp_fam_all (by kernel_rfl) (by kernel_rfl) (fun I hI' fw hf hback=>?_)
  have ca:∀j,(fw j).cell? ⟨g,5,none⟩=some (.int .u64 x5):=fun j=>(hA5.keep (hf j)).val (i:=5) (by simp<;>omega)
  have cp:∀j,(fw j).cell? ⟨5,5,none⟩=some (.int .u64 1873798617647539866):=fun j=>(hP5.keep (hf j)).val (i:=5) (by decide)
  repeat (go_big_quiet_step (fail))
  refine wpQuiet_nil ?_
  intro w6 hq
  have hA6:=hA5.keep hq
  have hP6:=hP5.keep hq
  have hb6:=hb5.trans (hq.mono hb5.size)
  clear ca cp hf hback run5 hq hA5 hP5 hb5
  have hcase:d5=0∨d5=1:=by omega
  clear D5
  rcases hcase with rfl|rfl
  · have hge:PP<=num [x0,x1,x2,x3,x4,x5]:=by
      rcases Int.lt_or_le (num [x0,x1,x2,x3,x4,x5]) PP with h|h
      · have:=HD.out.1 h;omega
      · exact h
    have HN:Keep _:=⟨(HD.out.2 hge).2⟩
    have HGE:Keep _:=⟨hge⟩
    clear hge
    have hO0:Only g w w6.drew:=only_drew (Only.of_below hb6 g)
    have hA6':=hA6.drew
    clear hb6 hP6 hA6
    have hA6:=hA6'
    clear hA6'
    go_wp2
    refine wp_front [0,1,2,3,4,5,6,7,8,9,10,11,12,15,18,21,24,27] [13,14,16,17,19,20,22,23,25,26,28,29] (by kernel_rfl) (by rfl) (by kernel_rfl) (by kernel_rfl) (fun _ _ d _ _ h=>by cases d<;>exact h) ?_
    simp only[List.filterMap_cons,List.filterMap_nil,List.getElem?_cons_zero,List.getElem?_cons_succ]
    repeat (refine⟨_,Or.inl ⟨by rfl,fun w=>(by go_simp;with_reducible rfl)⟩,?_⟩
            simp only[Act.put,List.setIfInBounds_toArray,List.set_cons_zero,List.set_cons_succ])
    change wpList _ _ _ _ _ _
    have e3:(Tryz.prog.info? 22).map (·.size)=some 1:=by kernel_rfl
    have l0:0<([x0,x1,x2,x3,x4,x5]++r).length:=by simp<;>omega
    have u0:([x0,x1,x2,x3,x4,x5]++r).set 0 s0=[s0,x1,x2,x3,x4,x5]++r:=by rfl
    have LU0:Keep _:=⟨And.intro l0 u0⟩
    clear l0 u0
    have l1:1<([s0,x1,x2,x3,x4,x5]++r).length:=by simp<;>omega
    have u1:([s0,x1,x2,x3,x4,x5]++r).set 1 s1=[s0,s1,x2,x3,x4,x5]++r:=by rfl
    have LU1:Keep _:=⟨And.intro l1 u1⟩
    clear l1 u1
    have l2:2<([s0,s1,x2,x3,x4,x5]++r).length:=by simp<;>omega
    have u2:([s0,s1,x2,x3,x4,x5]++r).set 2 s2=[s0,s1,s2,x3,x4,x5]++r:=by rfl
    have LU2:Keep _:=⟨And.intro l2 u2⟩
    clear l2 u2
    have l3:3<([s0,s1,s2,x3,x4,x5]++r).length:=by simp<;>omega
    have u3:([s0,s1,s2,x3,x4,x5]++r).set 3 s3=[s0,s1,s2,s3,x4,x5]++r:=by rfl
    have LU3:Keep _:=⟨And.intro l3 u3⟩
    clear l3 u3
    have l4:4<([s0,s1,s2,s3,x4,x5]++r).length:=by simp<;>omega
    have u4:([s0,s1,s2,s3,x4,x5]++r).set 4 s4=[s0,s1,s2,s3,s4,x5]++r:=by rfl
    have LU4:Keep _:=⟨And.intro l4 u4⟩
    clear l4 u4
    have l5:5<([s0,s1,s2,s3,s4,x5]++r).length:=by simp<;>omega
    have u5:([s0,s1,s2,s3,s4,x5]++r).set 5 s5=[s0,s1,s2,s3,s4,s5]++r:=by rfl
    have LU5:Keep _:=⟨And.intro l5 u5⟩
    clear l5 u5
    have E3:Keep _:=⟨e3⟩
    clear e3
    refine wpList_of_yields (Or.inl ⟨by rfl,fun w=>(by go_simp;with_reducible rfl)⟩) ?_
    simp only[Act.put,List.setIfInBounds_toArray,List.set_cons_zero,List.set_cons_succ]
    refine store_word (by rfl) 22 (.tmp 89) (.tmp 82) (by rfl) (by rfl) g 0 (by rfl) .u64 s0 (by rfl) E3.out t _ hA6 LU0.out.1 _ LU0.out.2 (fun v1 hA7 ho=>?_)
    have hO1:=hO0.trans ho
    clear ho hO0 hA6
    refine wpList_of_yields (Or.inl ⟨by rfl,fun w=>(by go_simp;with_reducible rfl)⟩) ?_
    simp only[Act.put,List.setIfInBounds_toArray,List.set_cons_zero,List.set_cons_succ]
    refine store_word (by rfl) 22 (.tmp 91) (.tmp 83) (by rfl) (by rfl) g 1 (by rfl) .u64 s1 (by rfl) E3.out t _ hA7 LU1.out.1 _ LU1.out.2 (fun v2 hA8 ho=>?_)
    have hO2:=hO1.trans ho
    clear ho hO1 hA7
    refine wpList_of_yields (Or.inl ⟨by rfl,fun w=>(by go_simp;with_reducible rfl)⟩) ?_
    simp only[Act.put,List.setIfInBounds_toArray,List.set_cons_zero,List.set_cons_succ]
    refine store_word (by rfl) 22 (.tmp 93) (.tmp 84) (by rfl) (by rfl) g 2 (by rfl) .u64 s2 (by rfl) E3.out t _ hA8 LU2.out.1 _ LU2.out.2 (fun v3 hA9 ho=>?_)
    have hO3:=hO2.trans ho
    clear ho hO2 hA8
    refine wpList_of_yields (Or.inl ⟨by rfl,fun w=>(by go_simp;with_reducible rfl)⟩) ?_
    simp only[Act.put,List.setIfInBounds_toArray,List.set_cons_zero,List.set_cons_succ]
    refine store_word (by rfl) 22 (.tmp 95) (.tmp 85) (by rfl) (by rfl) g 3 (by rfl) .u64 s3 (by rfl) E3.out t _ hA9 LU3.out.1 _ LU3.out.2 (fun v4 hA10 ho=>?_)
    have hO4:=hO3.trans ho
    clear ho hO3 hA9
    refine wpList_of_yields (Or.inl ⟨by rfl,fun w=>(by go_simp;with_reducible rfl)⟩) ?_
    simp only[Act.put,List.setIfInBounds_toArray,List.set_cons_zero,List.set_cons_succ]
    refine store_word (by rfl) 22 (.tmp 97) (.tmp 86) (by rfl) (by rfl) g 4 (by rfl) .u64 s4 (by rfl) E3.out t _ hA10 LU4.out.1 _ LU4.out.2 (fun v5 hA11 ho=>?_)
    have hO5:=hO4.trans ho
    clear ho hO4 hA10
    refine wpList_of_yields (Or.inl ⟨by rfl,fun w=>(by go_simp;with_reducible rfl)⟩) ?_
    simp only[Act.put,List.setIfInBounds_toArray,List.set_cons_zero,List.set_cons_succ]
    refine store_word (by rfl) 22 (.tmp 99) (.tmp 87) (by rfl) (by rfl) g 5 (by rfl) .u64 s5 (by rfl) E3.out t _ hA11 LU5.out.1 _ LU5.out.2 (fun v6 hA12 ho=>?_)
    have hO6:=hO5.trans ho
    clear ho hO5 hA11
    go_wp2
    go_end0
    exact⟨rfl,[s0,s1,s2,s3,s4,s5],hA12,rfl,BB.out,by rw[<-HNN.out,if_neg (Int.not_lt.2 HGE.out)];exact HN.out,hO6⟩
  · have hlt:num [x0,x1,x2,x3,x4,x5]<PP:=by
      rcases Int.lt_or_le (num [x0,x1,x2,x3,x4,x5]) PP with h|h
      · exact h
      · have:=(HD.out.2 h).1;omega
    have HLT:Keep _:=⟨hlt⟩
    clear hlt
    go_wp2
    go_end0
    exact⟨rfl,[x0,x1,x2,x3,x4,x5],hA6,rfl,WA.out,by rw[<-HNN.out,if_pos HLT.out],Only.of_below hb6 g⟩
end Fp
namespace Fp
open Go Go.RowKit Reg Base Limb Bits
def bfL:List Int:=[1,0,0,0,0,0,0,0,0,0,0,0,10162220747404304312,17761815663483519293,8873291758750579140,1141103941765652303,13993175198059990303,1802798568193066599,3240210268673559283,2895069921743240898,17009126888523054175,6098234018649060207,9865672654120263608,71000049454473266,0,0,0,0,0,0,10087218740379822764,4653388206581612541,9907120269317136283,12253596935368579796,17006226088849104517,1873798617647539865,14416168624775744521,17178867732698629620,8644499054833844677,5204293836692734814,7508032112903159806,481619096434065419,14416168624775744521,17178867732698629620,8644499054833844677,5204293836692734814,7508032112903159806,481619096434065419,10087218740379822765,4653388206581612541,9907120269317136283,12253596935368579796,17006226088849104517,1873798617647539865,0,0,0,0,0,0,11175958356102185238,14283797810955388722,10082116240020342118,17552803891753226222,16089103532492447813,410619046979592152,2226472659975678357,6373087774271371469,15800302407253291197,8133278142371037904,7769744319687806097,1463179570667947713]
def bsL:List Int:=[1,0,0,0,0,0,3315212275698040831,16003497378645147650,15975298377956497032,13432485098755684330,6852621763331149393,0,3315212275698040830,16003497378645147650,15975298377956497032,13432485098755684330,6852621763331149393,0,13402431016077863594,2210141511517208575,7435674573564081700,7239337960414712511,5412103778470702295,1873798617647539866,10087218740379822764,4653388206581612541,9907120269317136283,12253596935368579796,17006226088849104517,1873798617647539865,10087218740379822765,4653388206581612541,9907120269317136283,12253596935368579796,17006226088849104517,1873798617647539865]
def bbL:List Int:=[3315212275698040830,16003497378645147650,15975298377956497032,13432485098755684330,6852621763331149393,0]
def bxL:List Int:=[0,0,0,0,0,0,10087218740379822765,4653388206581612541,9907120269317136283,12253596935368579796,17006226088849104517,1873798617647539865]
def byL:List Int:=[17433006465011670690,3478017852528130570,17237919592439788638,2035044123721977696,16350815739277094105,1392179521213474446,14416168624775744521,17178867732698629620,8644499054833844677,5204293836692734814,7508032112903159806,481619096434065419]
def dbL:List Int:=[0,1,56,2,57,49,28,3,61,58,42,50,38,29,17,4,62,47,59,36,45,43,51,22,53,39,33,30,24,18,12,5,63,55,48,27,60,41,37,16,46,35,44,21,52,32,23,11,54,26,40,15,34,20,31,10,25,14,19,9,13,8,7,6]
structure GlobD (w:World):Prop extends Glob w where
 d:∃t,Has w 9 t (vals .u8 dbL)
 x1:∃t,Has w 0 t (vals .u64 bfL)
 x2:∃t,Has w 1 t (vals .u64 bsL)
 x3:∃t,Has w 2 t (vals .u64 bbL)
 x4:∃t,Has w 3 t (vals .u64 bxL)
 x5:∃t,Has w 4 t (vals .u64 byL)
structure FreeD (g:Nat):Prop extends Free g where
 d:g≠9
 x1:g≠0
 x2:g≠1
 x3:g≠2
 x4:g≠3
 x5:g≠4
section
variable {w w':World} {g:Nat}
theorem GlobD.keep (h:GlobD w)(hb:Below w.heap.size w w'):GlobD w':=
 ⟨h.toGlob.keep hb,h.d.imp fun _ h=>h.keep hb,h.x1.imp fun _ h=>h.keep hb,h.x2.imp fun _ h=>h.keep hb,h.x3.imp fun _ h=>h.keep hb,h.x4.imp fun _ h=>h.keep hb,h.x5.imp fun _ h=>h.keep hb⟩
theorem GlobD.only (h:GlobD w)(hb:Only g w w')(hf:FreeD g):GlobD w':=
 ⟨h.toGlob.only hb hf.toFree,h.d.imp fun _ h=>hb.has h hf.d.symm,h.x1.imp fun _ h=>hb.has h hf.x1.symm,h.x2.imp fun _ h=>hb.has h hf.x2.symm,h.x3.imp fun _ h=>hb.has h hf.x3.symm,h.x4.imp fun _ h=>hb.has h hf.x4.symm,h.x5.imp fun _ h=>hb.has h hf.x5.symm⟩
theorem GlobD.free (h:GlobD w)(hg:w.heap.size<=g):FreeD g:=by
 obtain⟨_,hd⟩:=h.d
 have gd:=hd.lt
 obtain⟨_,hx1⟩:=h.x1
 have gx1:=hx1.lt
 obtain⟨_,hx2⟩:=h.x2
 have gx2:=hx2.lt
 obtain⟨_,hx3⟩:=h.x3
 have gx3:=hx3.lt
 obtain⟨_,hx4⟩:=h.x4
 have gx4:=hx4.lt
 obtain⟨_,hx5⟩:=h.x5
 have gx5:=hx5.lt
 exact⟨h.toGlob.free hg,by omega,by omega,by omega,by omega,by omega,by omega⟩
end
end Fp
namespace Fp
open Go Go.RowKit Reg Base Limb Bits
theorem mul_told (x y:Int)(hx:0<=x/\x<=18446744073709551615)(hy:0<=y/\y<=18446744073709551615) :
  ∃h l:Int,Keep (∀w,Calls Tryz.prog 129 #[.int .u64 x,.int .u64 y] w fun e w'=>e=.returned (.tuple #[.int .u64 h,.int .u64 l])/\w=w') /\
   Keep (18446744073709551616*h+l=x*y)/\(0<=h/\h<=18446744073709551615)/\(0<=l/\l<=18446744073709551615):=by
 have hp:=word_prod hx.1 hx.2 hy.1 hy.2
 refine⟨_,_,⟨fun w=>mul64_c x y hx.1 hx.2 hy.1 hy.2 w⟩,⟨?_⟩,?_,?_⟩
 all_goals (generalize x*y=q at *;omega)
section
variable {w:World} {g off:Nat} {t:TypeId} {k:IntKind} {p l:List Int}
theorem at_off (h:Has w g t (vals k (p++l)))(hp:p.length=off){i:Nat}(hi:i<l.length):w.cell? ⟨g,off+i,none⟩=some (.int k (nth l i)):=by
 have:=h.val (i:=off+i) (by rw[List.length_append];omega)
 rw[this,nth_append_right _ _ _ (by omega),show off+i-p.length=i by omega]
theorem set_off (h:Has w g t (vals k (p++l)))(hp:p.length=off)(i:Nat)(v:Int):Has (w.setCell ⟨g,off+i,none⟩ (.int k v)) g t (vals k (p++l.set i v)):=by
 have:=h.set_ (off+i) (.int k v)
 rwa [vals_set,List.set_append_right _ _ (by omega),show off+i-p.length=i by omega] at this
end
theorem times_ar (N X Y:Int)(p0 h0 l0 x0 s0 d0 p1 h1 l1 x1 s1 d1 p2 h2 l2 x2 s2 d2 p3 h3 l3 x3 s3 d3 p4 h4 l4 x4 s4 d4 p5 h5 l5 x5 s5 d5 m1 e1 m2 e2 m3 e3 m4 e4 m5 e5:Int)
  (f0:18446744073709551616*h0+l0=p0) (f1:18446744073709551616*h1+l1=p1) (f2:18446744073709551616*h2+l2=p2) (f3:18446744073709551616*h3+l3=p3) (f4:18446744073709551616*h4+l4=p4) (f5:18446744073709551616*h5+l5=p5)
  (k1:m1+18446744073709551616*e1=l1+h0+0)
  (k2:m2+18446744073709551616*e2=l2+h1+e1)
  (k3:m3+18446744073709551616*e3=l3+h2+e2)
  (k4:m4+18446744073709551616*e4=l4+h3+e3)
  (k5:m5+18446744073709551616*e5=l5+h4+e4)
  (g0:s0+18446744073709551616*d0=x0+l0+0)
  (g1:s1+18446744073709551616*d1=x1+m1+d0)
  (g2:s2+18446744073709551616*d2=x2+m2+d1)
  (g3:s3+18446744073709551616*d3=x3+m3+d2)
  (g4:s4+18446744073709551616*d4=x4+m4+d3)
  (g5:s5+18446744073709551616*d5=x5+m5+d4)
  (hN:N=s0+18446744073709551616*s1+0x100000000000000000000000000000000*s2+0x1000000000000000000000000000000000000000000000000*s3+0x10000000000000000000000000000000000000000000000000000000000000000*s4+0x100000000000000000000000000000000000000000000000000000000000000000000000000000000*s5) (hX:X=x0+18446744073709551616*x1+0x100000000000000000000000000000000*x2+0x1000000000000000000000000000000000000000000000000*x3+0x10000000000000000000000000000000000000000000000000000000000000000*x4+0x100000000000000000000000000000000000000000000000000000000000000000000000000000000*x5) (hY:Y=p0+18446744073709551616*p1+0x100000000000000000000000000000000*p2+0x1000000000000000000000000000000000000000000000000*p3+0x10000000000000000000000000000000000000000000000000000000000000000*p4+0x100000000000000000000000000000000000000000000000000000000000000000000000000000000*p5) :
  N+wp 6*(h5+e5+d5)=X+Y/\l0+18446744073709551616*m1+0x100000000000000000000000000000000*m2+0x1000000000000000000000000000000000000000000000000*m3+0x10000000000000000000000000000000000000000000000000000000000000000*m4+0x100000000000000000000000000000000000000000000000000000000000000000000000000000000*m5+wp 6*(h5+e5)=Y:=by
 rw[wp_six]
 subst f0 f1 f2 f3 f4 f5 hN hX hY
 obtain rfl:x5=s5+18446744073709551616*d5-m5-d4:=by omega
 obtain rfl:x4=s4+18446744073709551616*d4-m4-d3:=by omega
 obtain rfl:x3=s3+18446744073709551616*d3-m3-d2:=by omega
 obtain rfl:x2=s2+18446744073709551616*d2-m2-d1:=by omega
 obtain rfl:x1=s1+18446744073709551616*d1-m1-d0:=by omega
 obtain rfl:x0=s0+18446744073709551616*d0-l0:=by omega
 obtain rfl:l5=m5+18446744073709551616*e5-h4-e4:=by omega
 obtain rfl:l4=m4+18446744073709551616*e4-h3-e3:=by omega
 obtain rfl:l3=m3+18446744073709551616*e3-h2-e2:=by omega
 obtain rfl:l2=m2+18446744073709551616*e2-h1-e1:=by omega
 obtain rfl:l1=m1+18446744073709551616*e1-h0:=by omega
 clear g0 g1 g2 g3 g4 g5 k1 k2 k3 k4 k5
 constructor<;>omega
theorem times_top {S X Y T d M R:Int}(hM:M=0x1000000000000000000000000000000000000000000000000000000000000000000000000000000000000000000000000)(hk:S+M*(T+d)=X+Y)(hk2:R+M*T=Y)(hS0:0<=S)(hS1:S<M)(hX0:0<=X)(hX1:X<M)(hR0:0<=R)(_hd0:0<=d)(hY0:0<=Y)(hY:Y<=18446744073709551615*(M-1)) :
  T<=18446744073709551615/\0<=T+d/\T+d<=18446744073709551615:=by
 subst hM
 refine⟨by omega,by omega,by omega⟩
set_option maxHeartbeats 4000000 in
theorem fpTimes_c (g off gb:Nat)(t tb:TypeId)(p a r b:List Int)(hp:p.length=off)(hla:a.length=6)(hwa:Words a)(hlb:b.length=6)(hwb:Words b)(x:Int)(hx:0<=x/\x<=18446744073709551615)(hne:g≠gb)(w:World)(hA0:Has w g t (vals .u64 (p++(a++r))))(hB0:Has w gb tb (vals .u64 b)) :
  Calls Tryz.prog 151 #[.pointer (some ⟨g,off,none⟩),.pointer (some ⟨gb,0,none⟩),.int .u64 x] w fun e w'=>∃(o:List Int) (cy:Int),e=.returned (.int .u64 cy)/\Has w' g t (vals .u64 (p++(o++r)))/\o.length=6/\Words o/\num o+wp 6*cy=num a+x*num b/\0<=cy/\cy<=18446744073709551615/\Only g w w':=by
 obtain⟨x0,x1,x2,x3,x4,x5,rfl⟩:=six_of hla
 obtain⟨y0,y1,y2,y3,y4,y5,rfl⟩:=six_of hlb
 have na:=num6 hwa rfl
 have nb:=num6 hwb rfl
 obtain⟨bx0,bx1,bx2,bx3,bx4,bx5⟩:=words6 hwa
 obtain⟨by0,by1,by2,by3,by4,by5⟩:=words6 hwb
 have HP:Keep _:=⟨hp⟩
 clear hla hlb hwa hwb
 have hO0:Only g w w:=Only.refl _ _
 obtain⟨h0,l0,MU0,F0,bh0,bl0⟩:=mul_told x y0 hx by0
 obtain⟨h1,l1,MU1,F1,bh1,bl1⟩:=mul_told x y1 hx by1
 obtain⟨h2,l2,MU2,F2,bh2,bl2⟩:=mul_told x y2 hx by2
 obtain⟨h3,l3,MU3,F3,bh3,bl3⟩:=mul_told x y3 hx by3
 obtain⟨h4,l4,MU4,F4,bh4,bl4⟩:=mul_told x y4 hx by4
 obtain⟨h5,l5,MU5,F5,bh5,bl5⟩:=mul_told x y5 hx by5
 obtain⟨m1,e1,rub1,G1,BM1,DE1⟩:=addc_told l1 h0 0 bl1 bh0 ⟨by omega,by omega⟩
 obtain⟨m2,e2,rub2,G2,BM2,DE2⟩:=addc_told l2 h1 e1 bl2 bh1 DE1
 obtain⟨m3,e3,rub3,G3,BM3,DE3⟩:=addc_told l3 h2 e2 bl3 bh2 DE2
 obtain⟨m4,e4,rub4,G4,BM4,DE4⟩:=addc_told l4 h3 e3 bl4 bh3 DE3
 obtain⟨m5,e5,rub5,G5,BM5,DE5⟩:=addc_told l5 h4 e4 bl5 bh4 DE4
 obtain⟨s0,d0,run0,E0,B0,D0⟩:=addc_told x0 l0 0 bx0 bl0 ⟨by omega,by omega⟩
 obtain⟨s1,d1,run1,E1,B1,D1⟩:=addc_told x1 m1 d0 bx1 BM1.out D0
 obtain⟨s2,d2,run2,E2,B2,D2⟩:=addc_told x2 m2 d1 bx2 BM2.out D1
 obtain⟨s3,d3,run3,E3,B3,D3⟩:=addc_told x3 m3 d2 bx3 BM3.out D2
 obtain⟨s4,d4,run4,E4,B4,D4⟩:=addc_told x4 m4 d3 bx4 BM4.out D3
 obtain⟨s5,d5,run5,E5,B5,D5⟩:=addc_told x5 m5 d4 bx5 BM5.out D4
 have eb:x*num [y0,y1,y2,y3,y4,y5]=x*y0+18446744073709551616*(x*y1)+0x100000000000000000000000000000000*(x*y2)+0x1000000000000000000000000000000000000000000000000*(x*y3)+0x10000000000000000000000000000000000000000000000000000000000000000*(x*y4)+0x100000000000000000000000000000000000000000000000000000000000000000000000000000000*(x*y5):=by
  rw[num_of6]
  grind
 have top:x*num [y0,y1,y2,y3,y4,y5]<=18446744073709551615*(wp 6-1):=by
  have h1:x*num [y0,y1,y2,y3,y4,y5]<=18446744073709551615*num [y0,y1,y2,y3,y4,y5]:=Int.mul_le_mul_of_nonneg_right hx.2 nb.1
  omega
 have top0:0<=x*num [y0,y1,y2,y3,y4,y5]:=Int.mul_nonneg hx.1 nb.1
 have ns:=num6 (words6_of B0.out B1.out B2.out B3.out B4.out B5.out) rfl
 have nr:=num6 (words6_of bl0 BM1.out BM2.out BM3.out BM4.out BM5.out) rfl
 have AK:=times_ar (num [s0,s1,s2,s3,s4,s5]) (num [x0,x1,x2,x3,x4,x5]) (x*num [y0,y1,y2,y3,y4,y5]) (x*y0) h0 l0 x0 s0 d0 (x*y1) h1 l1 x1 s1 d1 (x*y2) h2 l2 x2 s2 d2 (x*y3) h3 l3 x3 s3 d3 (x*y4) h4 l4 x4 s4 d4 (x*y5) h5 l5 x5 s5 d5 m1 e1 m2 e2 m3 e3 m4 e4 m5 e5 F0.out F1.out F2.out F3.out F4.out F5.out G1.out G2.out G3.out G4.out G5.out E0.out E1.out E2.out E3.out E4.out E5.out (num_of6 _ _ _ _ _ _) (num_of6 _ _ _ _ _ _) eb
 have AT:=times_top wp_six AK.1 ((num_of6 l0 m1 m2 m3 m4 m5).symm▸AK.2) ns.1 ns.2 na.1 na.2 nr.1 D5.1 top0 top
 have ar:h5+e5<=18446744073709551615/\0<=h5+e5+d5/\h5+e5+d5<=18446744073709551615/\num [s0,s1,s2,s3,s4,s5]+wp 6*(h5+e5+d5)=num [x0,x1,x2,x3,x4,x5]+x*num [y0,y1,y2,y3,y4,y5]:=⟨AT.1,AT.2.1,AT.2.2,AK.1⟩
 have hw1:IntKind.u64.wrap (h5+e5)=h5+e5:=by rw[IntKind.wrap_u64];omega
 have hw2:IntKind.u64.wrap (h5+e5+d5)=h5+e5+d5:=by rw[IntKind.wrap_u64];omega
 have AR:Keep _:=⟨ar.2⟩
 have BB:Keep _:=⟨words6_of B0.out B1.out B2.out B3.out B4.out B5.out⟩
 obtain⟨T,hT⟩:∃T,h5+e5=T:=⟨_,rfl⟩
 rw[hT] at hw1 hw2 AR
 obtain⟨U,hU⟩:∃U,T+d5=U:=⟨_,rfl⟩
 rw[hU] at hw2 AR
 have HW:Keep (IntKind.u64.wrap (IntKind.u64.wrap (h5+e5)+d5)=U):=⟨by rw[hT,hw1,hU,hw2]⟩
 clear hw1 hw2 hT hU ar eb top na nb top0 ns nr AK AT
 clear bx0 by0 F0 bh0 bl0 E0 B0 D0 bx1 by1 F1 bh1 bl1 E1 B1 D1 bx2 by2 F2 bh2 bl2 E2 B2 D2 bx3 by3 F3 bh3 bl3 E3 B3 D3 bx4 by4 F4 bh4 bl4 E4 B4 D4 bx5 by5 F5 bh5 bl5 E5 B5 D5 G1 BM1 DE1 G2 BM2 DE2 G3 BM3 DE3 G4 BM4 DE4 G5 BM5 DE5 hp hx
 go_enter Tryz.func151,Tryz.ntmps151
 have cb0:=hB0.val (i:=0) (by simp)
 have cb1:=hB0.val (i:=1) (by simp)
 have cb2:=hB0.val (i:=2) (by simp)
 have cb3:=hB0.val (i:=3) (by simp)
 have cb4:=hB0.val (i:=4) (by simp)
 have cb5:=hB0.val (i:=5) (by simp)
 simp only[nth,List.getD_cons_zero,List.getD_cons_succ] at cb0 cb1 cb2 cb3 cb4 cb5
 go_wp2_with (first
  |(go_at_call 129;with_reducible refine (MU0.out _).mono ?_;rintro e w1 ⟨rfl,rfl⟩)
  |(go_at_call 129;with_reducible refine (MU1.out _).mono ?_;rintro e w1 ⟨rfl,rfl⟩)
  |(go_at_call 129;with_reducible refine (MU2.out _).mono ?_;rintro e w1 ⟨rfl,rfl⟩)
  |(go_at_call 129;with_reducible refine (MU3.out _).mono ?_;rintro e w1 ⟨rfl,rfl⟩)
  |(go_at_call 129;with_reducible refine (MU4.out _).mono ?_;rintro e w1 ⟨rfl,rfl⟩)
  |(go_at_call 129;with_reducible refine (MU5.out _).mono ?_;rintro e w1 ⟨rfl,rfl⟩))
 clear cb0 cb1 cb2 cb3 cb4 cb5 rub1 rub2 rub3 rub4 rub5 MU0 MU1 MU2 MU3 MU4 MU5
 refine wp_write 12 (by rfl) (by kernel_rfl) (by kernel_rfl) (by kernel_rfl) (fun _ _ d _ _ h=>by cases d<;>exact h) (fun I hI' fw hf hback=>?_)
 simp only[List.take_succ_cons,List.take_zero]
 have ca:∀j,(fw j).cell? ⟨g,off,none⟩=some (.int .u64 x0):=fun j=>at_off (hA0.keep (hf j)) HP.out (i:=0) (by simp<;>omega)
 repeat (go_big_quiet_step (fail))
 refine wpQuiet_nil ?_
 intro w1 hq
 clear ca hf hback run0
 have co:w1.cell? ⟨g,off,none⟩=some (.int .u64 x0):=at_off (hA0.keep hq) HP.out (i:=0) (by simp<;>omega)
 have zo:w1.frozen? ⟨g,off,none⟩=false:=(hA0.keep hq).frozen (off)
 obtain⟨v1,hv⟩:∃v,w1.setCell ⟨g,off,none⟩ (.int .u64 s0)=v:=⟨_,rfl⟩
 have hA1:Has v1 g t (vals .u64 (p++([s0,x1,x2,x3,x4,x5]++r))):=by rw[<-hv];exact set_off (hA0.keep hq) HP.out 0 s0
 have hO1:Only g w v1:=by rw[<-hv];exact (hO0.trans (Only.of_below hq g)).set_ (p:=⟨g,off,none⟩) rfl _
 clear hA0 hO0 hq
 go_wp2
 clear hv co zo w1
 go_wp2
 refine wp_write 13 (by rfl) (by kernel_rfl) (by kernel_rfl) (by kernel_rfl) (fun _ _ d _ _ h=>by cases d<;>exact h) (fun I hI' fw hf hback=>?_)
 simp only[List.take_succ_cons,List.take_zero]
 have ca:∀j,(fw j).cell? ⟨g,off+1,none⟩=some (.int .u64 x1):=fun j=>at_off (hA1.keep (hf j)) HP.out (i:=1) (by simp<;>omega)
 repeat (go_big_quiet_step (fail))
 refine wpQuiet_nil ?_
 intro w2 hq
 clear ca hf hback run1
 have co:w2.cell? ⟨g,off+1,none⟩=some (.int .u64 x1):=at_off (hA1.keep hq) HP.out (i:=1) (by simp<;>omega)
 have zo:w2.frozen? ⟨g,off+1,none⟩=false:=(hA1.keep hq).frozen (off+1)
 obtain⟨v2,hv⟩:∃v,w2.setCell ⟨g,off+1,none⟩ (.int .u64 s1)=v:=⟨_,rfl⟩
 have hA2:Has v2 g t (vals .u64 (p++([s0,s1,x2,x3,x4,x5]++r))):=by rw[<-hv];exact set_off (hA1.keep hq) HP.out 1 s1
 have hO2:Only g w v2:=by rw[<-hv];exact (hO1.trans (Only.of_below hq g)).set_ (p:=⟨g,off+1,none⟩) rfl _
 clear hA1 hO1 hq
 go_wp2
 clear hv co zo w2
 go_wp2
 refine wp_write 13 (by rfl) (by kernel_rfl) (by kernel_rfl) (by kernel_rfl) (fun _ _ d _ _ h=>by cases d<;>exact h) (fun I hI' fw hf hback=>?_)
 simp only[List.take_succ_cons,List.take_zero]
 have ca:∀j,(fw j).cell? ⟨g,off+2,none⟩=some (.int .u64 x2):=fun j=>at_off (hA2.keep (hf j)) HP.out (i:=2) (by simp<;>omega)
 repeat (go_big_quiet_step (fail))
 refine wpQuiet_nil ?_
 intro w3 hq
 clear ca hf hback run2
 have co:w3.cell? ⟨g,off+2,none⟩=some (.int .u64 x2):=at_off (hA2.keep hq) HP.out (i:=2) (by simp<;>omega)
 have zo:w3.frozen? ⟨g,off+2,none⟩=false:=(hA2.keep hq).frozen (off+2)
 obtain⟨v3,hv⟩:∃v,w3.setCell ⟨g,off+2,none⟩ (.int .u64 s2)=v:=⟨_,rfl⟩
 have hA3:Has v3 g t (vals .u64 (p++([s0,s1,s2,x3,x4,x5]++r))):=by rw[<-hv];exact set_off (hA2.keep hq) HP.out 2 s2
 have hO3:Only g w v3:=by rw[<-hv];exact (hO2.trans (Only.of_below hq g)).set_ (p:=⟨g,off+2,none⟩) rfl _
 clear hA2 hO2 hq
 go_wp2
 clear hv co zo w3
 go_wp2
 refine wp_write 13 (by rfl) (by kernel_rfl) (by kernel_rfl) (by kernel_rfl) (fun _ _ d _ _ h=>by cases d<;>exact h) (fun I hI' fw hf hback=>?_)
 simp only[List.take_succ_cons,List.take_zero]
 have ca:∀j,(fw j).cell? ⟨g,off+3,none⟩=some (.int .u64 x3):=fun j=>at_off (hA3.keep (hf j)) HP.out (i:=3) (by simp<;>omega)
 repeat (go_big_quiet_step (fail))
 refine wpQuiet_nil ?_
 intro w4 hq
 clear ca hf hback run3
 have co:w4.cell? ⟨g,off+3,none⟩=some (.int .u64 x3):=at_off (hA3.keep hq) HP.out (i:=3) (by simp<;>omega)
 have zo:w4.frozen? ⟨g,off+3,none⟩=false:=(hA3.keep hq).frozen (off+3)
 obtain⟨v4,hv⟩:∃v,w4.setCell ⟨g,off+3,none⟩ (.int .u64 s3)=v:=⟨_,rfl⟩
 have hA4:Has v4 g t (vals .u64 (p++([s0,s1,s2,s3,x4,x5]++r))):=by rw[<-hv];exact set_off (hA3.keep hq) HP.out 3 s3
 have hO4:Only g w v4:=by rw[<-hv];exact (hO3.trans (Only.of_below hq g)).set_ (p:=⟨g,off+3,none⟩) rfl _
 clear hA3 hO3 hq
 go_wp2
 clear hv co zo w4
 go_wp2
 refine wp_write 13 (by rfl) (by kernel_rfl) (by kernel_rfl) (by kernel_rfl) (fun _ _ d _ _ h=>by cases d<;>exact h) (fun I hI' fw hf hback=>?_)
 simp only[List.take_succ_cons,List.take_zero]
 have ca:∀j,(fw j).cell? ⟨g,off+4,none⟩=some (.int .u64 x4):=fun j=>at_off (hA4.keep (hf j)) HP.out (i:=4) (by simp<;>omega)
 repeat (go_big_quiet_step (fail))
 refine wpQuiet_nil ?_
 intro w5 hq
 clear ca hf hback run4
 have co:w5.cell? ⟨g,off+4,none⟩=some (.int .u64 x4):=at_off (hA4.keep hq) HP.out (i:=4) (by simp<;>omega)
 have zo:w5.frozen? ⟨g,off+4,none⟩=false:=(hA4.keep hq).frozen (off+4)
 obtain⟨v5,hv⟩:∃v,w5.setCell ⟨g,off+4,none⟩ (.int .u64 s4)=v:=⟨_,rfl⟩
 have hA5:Has v5 g t (vals .u64 (p++([s0,s1,s2,s3,s4,x5]++r))):=by rw[<-hv];exact set_off (hA4.keep hq) HP.out 4 s4
 have hO5:Only g w v5:=by rw[<-hv];exact (hO4.trans (Only.of_below hq g)).set_ (p:=⟨g,off+4,none⟩) rfl _
 clear hA4 hO4 hq
 go_wp2
 clear hv co zo w5
 go_wp2
 refine wp_write 13 (by rfl) (by kernel_rfl) (by kernel_rfl) (by kernel_rfl) (fun _ _ d _ _ h=>by cases d<;>exact h) (fun I hI' fw hf hback=>?_)
 simp only[List.take_succ_cons,List.take_zero]
 have ca:∀j,(fw j).cell? ⟨g,off+5,none⟩=some (.int .u64 x5):=fun j=>at_off (hA5.keep (hf j)) HP.out (i:=5) (by simp<;>omega)
 repeat (go_big_quiet_step (fail))
 refine wpQuiet_nil ?_
 intro w6 hq
 clear ca hf hback run5
 have co:w6.cell? ⟨g,off+5,none⟩=some (.int .u64 x5):=at_off (hA5.keep hq) HP.out (i:=5) (by simp<;>omega)
 have zo:w6.frozen? ⟨g,off+5,none⟩=false:=(hA5.keep hq).frozen (off+5)
 obtain⟨v6,hv⟩:∃v,w6.setCell ⟨g,off+5,none⟩ (.int .u64 s5)=v:=⟨_,rfl⟩
 have hA6:Has v6 g t (vals .u64 (p++([s0,s1,s2,s3,s4,s5]++r))):=by rw[<-hv];exact set_off (hA5.keep hq) HP.out 5 s5
 have hO6:Only g w v6:=by rw[<-hv];exact (hO5.trans (Only.of_below hq g)).set_ (p:=⟨g,off+5,none⟩) rfl _
 clear hA5 hO5 hq
 go_wp2
 clear hv co zo w6
 go_ret
 exact⟨[s0,s1,s2,s3,s4,s5],U,by show Ending.returned (.int .u64 (IntKind.u64.wrap (IntKind.u64.wrap (h5+e5)+d5)))=_;rw[HW.out],hA6,rfl,BB.out,AR.out.2.2,AR.out.1,AR.out.2.1,hO6⟩
end Fp
end Go.Proofs.YtjamcbjghffboaaGreatDoor
