/-
  Own text.
-/
import Derived.Test.YtjamcbjghffboaaGreatDoorMFw1
import Derived.Test.YtjamcbjghffboaaGreatDoorLimbOwnC
import Derived.Lib.TrailingZeros
import Derived.Laws.Bits64b
import Derived.Test.YtjamcbjghffboaaGreatDoorMFpN
set_option linter.unusedVariables false
set_option maxRecDepth 100000
namespace Go.Proofs.YtjamcbjghffboaaGreatDoor
namespace Fp
open Go Go.RowKit Reg Base Limb Bits
theorem dbL_at:∀k:Fin 64,(2^k.1*285870213051353865%18446744073709551616/288230376151711744:Nat)<64/\nth dbL (2^k.1*285870213051353865%18446744073709551616/288230376151711744)=(k.1:Int):=by decide +kernel
theorem tz_key (x a:Nat)(hx:x<18446744073709551616)(hx0:x≠0)(hlow:x &&& (18446744073709551616-x)=a) :
  IntKind.u64.wrap (bits BinOp.and IntKind.u64 (x:Int) (IntKind.u64.wrap (-(x:Int)))*285870213051353865)/288230376151711744=((a*285870213051353865%18446744073709551616/288230376151711744:Nat):Int):=by
 have e1:IntKind.u64.wrap (-(x:Int))=((18446744073709551616-x:Nat):Int):=by rw[IntKind.wrap_u64];omega
 rw[e1,bits_and_u64_nat x _ hx (by omega),hlow,IntKind.wrap_u64]
 omega
set_option maxHeartbeats 1000000 in
theorem tz_zero (w:World):Calls Tryz.prog 170 #[.int .u64 0] w fun e w'=>e=.returned (.int .i64 64)/\w=w':=by
 go_enter Tryz.func170,Tryz.ntmps170
 go_wp2
 go_ret
 exact⟨rfl,rfl⟩
set_option maxHeartbeats 1000000 in
theorem tz_core (x k idx:Nat)(w:World)(hx0:((x:Int)==0)=false)
  (key:IntKind.u64.wrap (bits BinOp.and IntKind.u64 (x:Int) (IntKind.u64.wrap (-(x:Int)))*285870213051353865)/288230376151711744=(idx:Int))
  (hi:idx<64) (hk:k<64) (hcell:w.cell? ⟨9,idx,none⟩=some (.int .u8 k)) :
  Calls Tryz.prog 170 #[.int .u64 x] w fun e w'=>e=.returned (.int .i64 k)/\w=w':=by
 go_enter Tryz.func170,Tryz.ntmps170
 go_wp2_with (simp only[key])
 go_ret
 exact⟨rfl,rfl⟩
theorem tz_c (x:Int)(hx:0<=x/\x<=18446744073709551615)(w:World)(hG:GlobD w) :
  ∃n:Nat,n<=64/\x%2^n=0/\(x%2=0->1<=n)/\Calls Tryz.prog 170 #[.int .u64 x] w fun e w'=>e=.returned (.int .i64 (n:Int))/\w=w':=by
 obtain⟨X,rfl⟩:=Int.eq_ofNat_of_zero_le hx.1
 by_cases h0:X=0
 ·subst h0
  exact⟨64,by omega,by simp,fun _=>by omega,tz_zero w⟩
 ·have hX:X<2^64:=by have:=hx.2;omega
  obtain⟨m,hm,hk⟩:=Lib.ctzFrom_spec 64 X (by omega) hX
  obtain⟨hlow,_⟩:=Lib.lowest_bit 64 X h0 hX
  have e:Lib.ctz 64 X=Lib.ctzFrom 64 X:=by simp[Lib.ctz,h0]
  rw[e] at hlow
  obtain⟨k,hkk⟩:∃k,Lib.ctzFrom 64 X=k:=⟨_,rfl⟩
  rw[hkk] at hm hk hlow
  obtain⟨td,hd⟩:=hG.d
  obtain⟨hi,hv⟩:=dbL_at ⟨k,hk⟩
  have hcell:=hd.val (i:=2^k*285870213051353865%18446744073709551616/288230376151711744) hi
  rw[hv] at hcell
  refine⟨k,by omega,?_,fun he=>?_,tz_core X k _ w (by simp;omega) (tz_key X _ hX h0 hlow) hi hk hcell⟩
  ·rw[hm]
   have:((2^k*(2*m+1):Nat):Int)=2^k*(2*m+1):=by simp
   rw[this,Int.mul_emod_right]
  ·rcases Nat.eq_zero_or_pos k with h|h
   ·subst h
    exfalso
    simp at hm
    omega
   ·exact h
theorem two_pows {n t:Nat}(h:n+t=64):(2:Int)^n*2^t=18446744073709551616/\(0:Int)<2^n/\(0:Int)<2^t:=by
 refine⟨?_,Int.pow_pos (by omega),Int.pow_pos (by omega)⟩
 rw[<-Int.pow_add,h]
 decide
theorem down_word {n t:Nat}(h:n+t=64){x y:Int}(hx:0<=x/\x<=18446744073709551615)(hy:0<=y/\y<=18446744073709551615) :
  bits .or .u64 (x/2^n) (IntKind.u64.wrap (y*2^t))=x/2^n+2^t*(y%2^n)/\0<=x/2^n+2^t*(y%2^n)/\x/2^n+2^t*(y%2^n)<=18446744073709551615:=by
 obtain⟨e,h1,h2⟩:=two_pows h
 have hq0:0<=x/2^n:=Int.ediv_nonneg hx.1 (by omega)
 have hq1:x/2^n<2^t:=Int.ediv_lt_of_lt_mul h1 (by rw[Int.mul_comm,e];omega)
 have hm:y*2^t%18446744073709551616=2^t*(y%2^n):=by
  rw[<-e,Int.mul_comm ((2:Int)^n),Int.mul_comm y,Int.mul_emod_mul_of_pos _ _ h2]
 have hr0:=Int.emod_nonneg y (b:=2^n) (by omega)
 have hr1:=Int.emod_lt_of_pos y h1
 have hs0:0<=2^t*(y%2^n):=Int.mul_nonneg (by omega) hr0
 have hs1:2^t*(y%2^n)<=2^t*(2^n-1):=Int.mul_le_mul_of_nonneg_left (by omega) (by omega)
 rw[Int.mul_sub,Int.mul_comm ((2:Int)^t) (2^n),e,Int.mul_one] at hs1
 refine⟨?_,by omega,by omega⟩
 rw[IntKind.wrap_u64,hm]
 exact or_up t hq0 hq1 (by omega) hs0 (by rw[Int.mul_emod_right]) (by omega)
theorem down_last {n t:Nat}(h:n+t=64){x:Int}(hx:0<=x/\x<=18446744073709551615):0<=x/2^n/\x/2^n<=18446744073709551615:=by
 obtain⟨e,h1,h2⟩:=two_pows h
 have hq0:0<=x/2^n:=Int.ediv_nonneg hx.1 (by omega)
 have:x/2^n<=x:=Int.ediv_le_self _ hx.1
 omega
theorem up_word {n t:Nat}(h:n+t=64){x y:Int}(hx:0<=x/\x<=18446744073709551615)(hy:0<=y/\y<=18446744073709551615) :
  bits .or .u64 (IntKind.u64.wrap (x*2^n)) (y/2^t)=2^n*(x%2^t)+y/2^t/\0<=2^n*(x%2^t)+y/2^t/\2^n*(x%2^t)+y/2^t<=18446744073709551615:=by
 have h':=down_word (n:=t) (t:=n) (by omega) hy hx
 have hc:bits .or .u64 (IntKind.u64.wrap (x*2^n)) (y/2^t)=bits .or .u64 (y/2^t) (IntKind.u64.wrap (x*2^n)):=by simp only[bits,BitVec.or_comm]
 refine⟨by rw[hc,h'.1,Int.add_comm],?_⟩
 rw[Int.add_comm]
 exact h'.2
theorem up_first {n t:Nat}(h:n+t=64){x:Int}:IntKind.u64.wrap (x*2^n)=2^n*(x%2^t)/\0<=2^n*(x%2^t)/\2^n*(x%2^t)<=18446744073709551615:=by
 obtain⟨e,h1,h2⟩:=two_pows h
 have hm:x*2^n%18446744073709551616=2^n*(x%2^t):=by
  rw[<-e,Int.mul_comm x,Int.mul_emod_mul_of_pos _ _ h1]
 rw[IntKind.wrap_u64,hm]
 omega
theorem down_num {n t:Nat}(h:n+t=64)(x0 x1 x2 x3 x4 x5:Int)(hz:x0%2^n=0) :
  num [x0,x1,x2,x3,x4,x5]=2^n*num [x0/2^n+2^t*(x1%2^n),x1/2^n+2^t*(x2%2^n),x2/2^n+2^t*(x3%2^n),x3/2^n+2^t*(x4%2^n),x4/2^n+2^t*(x5%2^n),x5/2^n]:=by
 obtain⟨e,h1,h2⟩:=two_pows h
 have m:∀r:Int,2^n*(2^t*r)=18446744073709551616*r:=fun r=>by rw[<-Int.mul_assoc,e]
 have e0:=Int.mul_ediv_add_emod x0 (2^n)
 have e1:=Int.mul_ediv_add_emod x1 (2^n)
 have e2:=Int.mul_ediv_add_emod x2 (2^n)
 have e3:=Int.mul_ediv_add_emod x3 (2^n)
 have e4:=Int.mul_ediv_add_emod x4 (2^n)
 have e5:=Int.mul_ediv_add_emod x5 (2^n)
 rw[num_of6,num_of6]
 have c1:∀q:Int,2^n*(18446744073709551616*q)=18446744073709551616*(2^n*q):=fun q=>Int.mul_left_comm _ _ _
 have c2:∀q:Int,2^n*(0x100000000000000000000000000000000*q)=0x100000000000000000000000000000000*(2^n*q):=fun q=>Int.mul_left_comm _ _ _
 have c3:∀q:Int,2^n*(0x1000000000000000000000000000000000000000000000000*q)=0x1000000000000000000000000000000000000000000000000*(2^n*q):=fun q=>Int.mul_left_comm _ _ _
 have c4:∀q:Int,2^n*(0x10000000000000000000000000000000000000000000000000000000000000000*q)=0x10000000000000000000000000000000000000000000000000000000000000000*(2^n*q):=fun q=>Int.mul_left_comm _ _ _
 have c5:∀q:Int,2^n*(0x100000000000000000000000000000000000000000000000000000000000000000000000000000000*q)=0x100000000000000000000000000000000000000000000000000000000000000000000000000000000*(2^n*q):=fun q=>Int.mul_left_comm _ _ _
 simp only[Int.mul_add,c1,c2,c3,c4,c5,m]
 obtain⟨q0,hq0⟩:∃q,x0/2^n=q:=⟨_,rfl⟩
 obtain⟨r0,hr0⟩:∃r,x0%2^n=r:=⟨_,rfl⟩
 rw[hq0,hr0] at e0
 obtain⟨q1,hq1⟩:∃q,x1/2^n=q:=⟨_,rfl⟩
 obtain⟨r1,hr1⟩:∃r,x1%2^n=r:=⟨_,rfl⟩
 rw[hq1,hr1] at e1
 obtain⟨q2,hq2⟩:∃q,x2/2^n=q:=⟨_,rfl⟩
 obtain⟨r2,hr2⟩:∃r,x2%2^n=r:=⟨_,rfl⟩
 rw[hq2,hr2] at e2
 obtain⟨q3,hq3⟩:∃q,x3/2^n=q:=⟨_,rfl⟩
 obtain⟨r3,hr3⟩:∃r,x3%2^n=r:=⟨_,rfl⟩
 rw[hq3,hr3] at e3
 obtain⟨q4,hq4⟩:∃q,x4/2^n=q:=⟨_,rfl⟩
 obtain⟨r4,hr4⟩:∃r,x4%2^n=r:=⟨_,rfl⟩
 rw[hq4,hr4] at e4
 obtain⟨q5,hq5⟩:∃q,x5/2^n=q:=⟨_,rfl⟩
 obtain⟨r5,hr5⟩:∃r,x5%2^n=r:=⟨_,rfl⟩
 rw[hq5,hr5] at e5
 simp only[hq0,hq1,hq2,hq3,hq4,hq5,hr1,hr2,hr3,hr4,hr5]
 rw[hr0] at hz
 obtain⟨p0,hp0⟩:∃p,2^n*q0=p:=⟨_,rfl⟩
 rw[hp0] at e0
 obtain⟨p1,hp1⟩:∃p,2^n*q1=p:=⟨_,rfl⟩
 rw[hp1] at e1
 obtain⟨p2,hp2⟩:∃p,2^n*q2=p:=⟨_,rfl⟩
 rw[hp2] at e2
 obtain⟨p3,hp3⟩:∃p,2^n*q3=p:=⟨_,rfl⟩
 rw[hp3] at e3
 obtain⟨p4,hp4⟩:∃p,2^n*q4=p:=⟨_,rfl⟩
 rw[hp4] at e4
 obtain⟨p5,hp5⟩:∃p,2^n*q5=p:=⟨_,rfl⟩
 rw[hp5] at e5
 simp only[hp0,hp1,hp2,hp3,hp4,hp5]
 omega
theorem up_num {n t:Nat}(h:n+t=64){x0 x1 x2 x3 x4 x5:Int}(hw:Words [x0,x1,x2,x3,x4,x5])(hlt:2^n*num [x0,x1,x2,x3,x4,x5]<wp 6) :
  num [2^n*(x0%2^t),2^n*(x1%2^t)+x0/2^t,2^n*(x2%2^t)+x1/2^t,2^n*(x3%2^t)+x2/2^t,2^n*(x4%2^t)+x3/2^t,2^n*(x5%2^t)+x4/2^t]=2^n*num [x0,x1,x2,x3,x4,x5]:=by
 obtain⟨e,h1,h2⟩:=two_pows h
 have m:∀q:Int,2^n*(2^t*q)=18446744073709551616*q:=fun q=>by rw[<-Int.mul_assoc,e]
 have hn:=num_of6 x0 x1 x2 x3 x4 x5
 obtain⟨b0,b1,b2,b3,b4,b5⟩:=words6 hw
 have key:2^n*num [x0,x1,x2,x3,x4,x5]=num [2^n*(x0%2^t),2^n*(x1%2^t)+x0/2^t,2^n*(x2%2^t)+x1/2^t,2^n*(x3%2^t)+x2/2^t,2^n*(x4%2^t)+x3/2^t,2^n*(x5%2^t)+x4/2^t]+wp 6*(x5/2^t):=by
  have e0:=Int.mul_ediv_add_emod x0 (2^t)
  have e1:=Int.mul_ediv_add_emod x1 (2^t)
  have e2:=Int.mul_ediv_add_emod x2 (2^t)
  have e3:=Int.mul_ediv_add_emod x3 (2^t)
  have e4:=Int.mul_ediv_add_emod x4 (2^t)
  have e5:=Int.mul_ediv_add_emod x5 (2^t)
  rw[num_of6,num_of6,wp_six]
  obtain⟨q0,hq0⟩:∃q,x0/2^t=q:=⟨_,rfl⟩
  obtain⟨r0,hr0⟩:∃r,x0%2^t=r:=⟨_,rfl⟩
  rw[hq0,hr0] at e0
  obtain⟨q1,hq1⟩:∃q,x1/2^t=q:=⟨_,rfl⟩
  obtain⟨r1,hr1⟩:∃r,x1%2^t=r:=⟨_,rfl⟩
  rw[hq1,hr1] at e1
  obtain⟨q2,hq2⟩:∃q,x2/2^t=q:=⟨_,rfl⟩
  obtain⟨r2,hr2⟩:∃r,x2%2^t=r:=⟨_,rfl⟩
  rw[hq2,hr2] at e2
  obtain⟨q3,hq3⟩:∃q,x3/2^t=q:=⟨_,rfl⟩
  obtain⟨r3,hr3⟩:∃r,x3%2^t=r:=⟨_,rfl⟩
  rw[hq3,hr3] at e3
  obtain⟨q4,hq4⟩:∃q,x4/2^t=q:=⟨_,rfl⟩
  obtain⟨r4,hr4⟩:∃r,x4%2^t=r:=⟨_,rfl⟩
  rw[hq4,hr4] at e4
  obtain⟨q5,hq5⟩:∃q,x5/2^t=q:=⟨_,rfl⟩
  obtain⟨r5,hr5⟩:∃r,x5%2^t=r:=⟨_,rfl⟩
  rw[hq5,hr5] at e5
  simp only[hq0,hq1,hq2,hq3,hq4,hq5,hr0,hr1,hr2,hr3,hr4,hr5]
  have c:∀k q:Int,2^n*(k*q)=k*(2^n*q):=fun k q=>Int.mul_left_comm _ _ _
  have f0:2^n*x0=18446744073709551616*q0+2^n*r0:=by rw[<-m,<-Int.mul_add,e0]
  have f1:2^n*x1=18446744073709551616*q1+2^n*r1:=by rw[<-m,<-Int.mul_add,e1]
  have f2:2^n*x2=18446744073709551616*q2+2^n*r2:=by rw[<-m,<-Int.mul_add,e2]
  have f3:2^n*x3=18446744073709551616*q3+2^n*r3:=by rw[<-m,<-Int.mul_add,e3]
  have f4:2^n*x4=18446744073709551616*q4+2^n*r4:=by rw[<-m,<-Int.mul_add,e4]
  have f5:2^n*x5=18446744073709551616*q5+2^n*r5:=by rw[<-m,<-Int.mul_add,e5]
  simp only[Int.mul_add,c]
  obtain⟨p0,hp0⟩:∃p,2^n*x0=p:=⟨_,rfl⟩
  obtain⟨s0,hs0⟩:∃s,2^n*r0=s:=⟨_,rfl⟩
  rw[hp0,hs0] at f0
  obtain⟨p1,hp1⟩:∃p,2^n*x1=p:=⟨_,rfl⟩
  obtain⟨s1,hs1⟩:∃s,2^n*r1=s:=⟨_,rfl⟩
  rw[hp1,hs1] at f1
  obtain⟨p2,hp2⟩:∃p,2^n*x2=p:=⟨_,rfl⟩
  obtain⟨s2,hs2⟩:∃s,2^n*r2=s:=⟨_,rfl⟩
  rw[hp2,hs2] at f2
  obtain⟨p3,hp3⟩:∃p,2^n*x3=p:=⟨_,rfl⟩
  obtain⟨s3,hs3⟩:∃s,2^n*r3=s:=⟨_,rfl⟩
  rw[hp3,hs3] at f3
  obtain⟨p4,hp4⟩:∃p,2^n*x4=p:=⟨_,rfl⟩
  obtain⟨s4,hs4⟩:∃s,2^n*r4=s:=⟨_,rfl⟩
  rw[hp4,hs4] at f4
  obtain⟨p5,hp5⟩:∃p,2^n*x5=p:=⟨_,rfl⟩
  obtain⟨s5,hs5⟩:∃s,2^n*r5=s:=⟨_,rfl⟩
  rw[hp5,hs5] at f5
  simp only[hp0,hp1,hp2,hp3,hp4,hp5,hs0,hs1,hs2,hs3,hs4,hs5]
  omega
 have hr:0<=num [2^n*(x0%2^t),2^n*(x1%2^t)+x0/2^t,2^n*(x2%2^t)+x1/2^t,2^n*(x3%2^t)+x2/2^t,2^n*(x4%2^t)+x3/2^t,2^n*(x5%2^t)+x4/2^t]:=
  (num_bounds (words6_of (up_first h (x:=x0)).2 (up_word h b1 b0).2 (up_word h b2 b1).2 (up_word h b3 b2).2 (up_word h b4 b3).2 (up_word h b5 b4).2)).1
 have hq:0<=x5/2^t:=Int.ediv_nonneg b5.1 (by omega)
 rw[wp_six] at *
 generalize num [2^n*(x0%2^t),2^n*(x1%2^t)+x0/2^t,2^n*(x2%2^t)+x1/2^t,2^n*(x3%2^t)+x2/2^t,2^n*(x4%2^t)+x3/2^t,2^n*(x5%2^t)+x4/2^t]=Y at *
 generalize 2^n*num [x0,x1,x2,x3,x4,x5]=X at *
 generalize x5/2^t=q at *
 omega
set_option maxHeartbeats 2000000 in
theorem shiftDown_c (g:Nat)(ty:TypeId)(a:List Int)(hla:a.length=6)(hwa:Words a)(n t:Nat)(hnt:n+t=64)(w:World)(hA0:Has w g ty (vals .u64 a)) :
  Calls Tryz.prog 171 #[.pointer (some ⟨g,0,none⟩),.int .i64 (n:Int)] w fun e w'=>e=.returned (.tuple #[])/\∃o:List Int,Has w' g ty (vals .u64 o)/\o.length=6/\Words o/\(nth a 0%2^n=0->num a=2^n*num o)/\Only g w w':=by
 obtain⟨x0,x1,x2,x3,x4,x5,rfl⟩:=six_of hla
 obtain⟨bx0,bx1,bx2,bx3,bx4,bx5⟩:=words6 hwa
 have hti:(64:Int)-(n:Int)=(t:Int):=by omega
 have hO0:Only g w w:=Only.refl _ _
 obtain⟨hor0,B0⟩:=down_word hnt bx0 bx1
 obtain⟨hor1,B1⟩:=down_word hnt bx1 bx2
 obtain⟨hor2,B2⟩:=down_word hnt bx2 bx3
 obtain⟨hor3,B3⟩:=down_word hnt bx3 bx4
 obtain⟨hor4,B4⟩:=down_word hnt bx4 bx5
 have B5:=down_last hnt bx5
 obtain⟨y0,hy0⟩:∃y,x0/2^n+2^t*(x1%2^n)=y:=⟨_,rfl⟩
 obtain⟨y1,hy1⟩:∃y,x1/2^n+2^t*(x2%2^n)=y:=⟨_,rfl⟩
 obtain⟨y2,hy2⟩:∃y,x2/2^n+2^t*(x3%2^n)=y:=⟨_,rfl⟩
 obtain⟨y3,hy3⟩:∃y,x3/2^n+2^t*(x4%2^n)=y:=⟨_,rfl⟩
 obtain⟨y4,hy4⟩:∃y,x4/2^n+2^t*(x5%2^n)=y:=⟨_,rfl⟩
 obtain⟨y5,hy5⟩:∃y,x5/2^n=y:=⟨_,rfl⟩
 have FIN:Keep _:=⟨fun h0=>down_num hnt x0 x1 x2 x3 x4 x5 h0⟩
 rw[hy0] at hor0 B0
 rw[hy1] at hor1 B1
 rw[hy2] at hor2 B2
 rw[hy3] at hor3 B3
 rw[hy4] at hor4 B4
 rw[hy5] at B5
 rw[hy0,hy1,hy2,hy3,hy4,hy5] at FIN
 have BB:Keep _:=⟨words6_of B0 B1 B2 B3 B4 B5⟩
 clear bx0 B0 bx1 B1 bx2 B2 bx3 B3 bx4 B4 bx5 B5 hy0 hy1 hy2 hy3 hy4 hla hwa hnt
 go_enter Tryz.func171,Tryz.ntmps171
 go_wp2
 refine wp_fam 16 (by kernel_rfl) (by kernel_rfl) (fun I hI' fw hf hback=>?_)
 simp only[List.take_succ_cons,List.take_zero,List.drop_succ_cons,List.drop_zero]
 have ca:∀j,(fw j).cell? ⟨g,0,none⟩=some (.int .u64 x0):=fun j=>(hA0.keep (hf j)).val (i:=0) (by simp)
 have cb:∀j,(fw j).cell? ⟨g,1,none⟩=some (.int .u64 x1):=fun j=>(hA0.keep (hf j)).val (i:=1) (by simp)
 repeat (go_big_quiet_step (fail))
 refine wpQuiet_nil ?_
 intro w1 hq
 clear ca cb hf hback
 have co:=(hA0.keep hq).val (i:=0) (by simp)
 have zo:=(hA0.keep hq).frozen 0
 obtain⟨v1,hv⟩:∃v,w1.setCell ⟨g,0,none⟩ (.int .u64 y0)=v:=⟨_,rfl⟩
 have hA1:Has v1 g ty (vals .u64 [y0,x1,x2,x3,x4,x5]):=by rw[<-hv];exact (hA0.keep hq).set_ 0 (.int .u64 y0)
 have hO1:Only g w v1:=by rw[<-hv];exact (hO0.trans (Only.of_below hq g)).set_ (p:=⟨g,0,none⟩) rfl _
 clear hA0 hO0 hq
 go_wp2
 clear hv co zo w1
 go_wp2
 refine wp_fam 16 (by kernel_rfl) (by kernel_rfl) (fun I hI' fw hf hback=>?_)
 simp only[List.take_succ_cons,List.take_zero,List.drop_succ_cons,List.drop_zero]
 have ca:∀j,(fw j).cell? ⟨g,1,none⟩=some (.int .u64 x1):=fun j=>(hA1.keep (hf j)).val (i:=1) (by simp)
 have cb:∀j,(fw j).cell? ⟨g,2,none⟩=some (.int .u64 x2):=fun j=>(hA1.keep (hf j)).val (i:=2) (by simp)
 repeat (go_big_quiet_step (fail))
 refine wpQuiet_nil ?_
 intro w2 hq
 clear ca cb hf hback
 have co:=(hA1.keep hq).val (i:=1) (by simp)
 have zo:=(hA1.keep hq).frozen 1
 obtain⟨v2,hv⟩:∃v,w2.setCell ⟨g,1,none⟩ (.int .u64 y1)=v:=⟨_,rfl⟩
 have hA2:Has v2 g ty (vals .u64 [y0,y1,x2,x3,x4,x5]):=by rw[<-hv];exact (hA1.keep hq).set_ 1 (.int .u64 y1)
 have hO2:Only g w v2:=by rw[<-hv];exact (hO1.trans (Only.of_below hq g)).set_ (p:=⟨g,1,none⟩) rfl _
 clear hA1 hO1 hq
 go_wp2
 clear hv co zo w2
 go_wp2
 refine wp_fam 16 (by kernel_rfl) (by kernel_rfl) (fun I hI' fw hf hback=>?_)
 simp only[List.take_succ_cons,List.take_zero,List.drop_succ_cons,List.drop_zero]
 have ca:∀j,(fw j).cell? ⟨g,2,none⟩=some (.int .u64 x2):=fun j=>(hA2.keep (hf j)).val (i:=2) (by simp)
 have cb:∀j,(fw j).cell? ⟨g,3,none⟩=some (.int .u64 x3):=fun j=>(hA2.keep (hf j)).val (i:=3) (by simp)
 repeat (go_big_quiet_step (fail))
 refine wpQuiet_nil ?_
 intro w3 hq
 clear ca cb hf hback
 have co:=(hA2.keep hq).val (i:=2) (by simp)
 have zo:=(hA2.keep hq).frozen 2
 obtain⟨v3,hv⟩:∃v,w3.setCell ⟨g,2,none⟩ (.int .u64 y2)=v:=⟨_,rfl⟩
 have hA3:Has v3 g ty (vals .u64 [y0,y1,y2,x3,x4,x5]):=by rw[<-hv];exact (hA2.keep hq).set_ 2 (.int .u64 y2)
 have hO3:Only g w v3:=by rw[<-hv];exact (hO2.trans (Only.of_below hq g)).set_ (p:=⟨g,2,none⟩) rfl _
 clear hA2 hO2 hq
 go_wp2
 clear hv co zo w3
 go_wp2
 refine wp_fam 16 (by kernel_rfl) (by kernel_rfl) (fun I hI' fw hf hback=>?_)
 simp only[List.take_succ_cons,List.take_zero,List.drop_succ_cons,List.drop_zero]
 have ca:∀j,(fw j).cell? ⟨g,3,none⟩=some (.int .u64 x3):=fun j=>(hA3.keep (hf j)).val (i:=3) (by simp)
 have cb:∀j,(fw j).cell? ⟨g,4,none⟩=some (.int .u64 x4):=fun j=>(hA3.keep (hf j)).val (i:=4) (by simp)
 repeat (go_big_quiet_step (fail))
 refine wpQuiet_nil ?_
 intro w4 hq
 clear ca cb hf hback
 have co:=(hA3.keep hq).val (i:=3) (by simp)
 have zo:=(hA3.keep hq).frozen 3
 obtain⟨v4,hv⟩:∃v,w4.setCell ⟨g,3,none⟩ (.int .u64 y3)=v:=⟨_,rfl⟩
 have hA4:Has v4 g ty (vals .u64 [y0,y1,y2,y3,x4,x5]):=by rw[<-hv];exact (hA3.keep hq).set_ 3 (.int .u64 y3)
 have hO4:Only g w v4:=by rw[<-hv];exact (hO3.trans (Only.of_below hq g)).set_ (p:=⟨g,3,none⟩) rfl _
 clear hA3 hO3 hq
 go_wp2
 clear hv co zo w4
 go_wp2
 refine wp_fam 16 (by kernel_rfl) (by kernel_rfl) (fun I hI' fw hf hback=>?_)
 simp only[List.take_succ_cons,List.take_zero,List.drop_succ_cons,List.drop_zero]
 have ca:∀j,(fw j).cell? ⟨g,4,none⟩=some (.int .u64 x4):=fun j=>(hA4.keep (hf j)).val (i:=4) (by simp)
 have cb:∀j,(fw j).cell? ⟨g,5,none⟩=some (.int .u64 x5):=fun j=>(hA4.keep (hf j)).val (i:=5) (by simp)
 repeat (go_big_quiet_step (fail))
 refine wpQuiet_nil ?_
 intro w5 hq
 clear ca cb hf hback
 have co:=(hA4.keep hq).val (i:=4) (by simp)
 have zo:=(hA4.keep hq).frozen 4
 obtain⟨v5,hv⟩:∃v,w5.setCell ⟨g,4,none⟩ (.int .u64 y4)=v:=⟨_,rfl⟩
 have hA5:Has v5 g ty (vals .u64 [y0,y1,y2,y3,y4,x5]):=by rw[<-hv];exact (hA4.keep hq).set_ 4 (.int .u64 y4)
 have hO5:Only g w v5:=by rw[<-hv];exact (hO4.trans (Only.of_below hq g)).set_ (p:=⟨g,4,none⟩) rfl _
 clear hA4 hO4 hq
 go_wp2
 clear hv co zo w5
 go_wp2
 refine wp_fam 8 (by kernel_rfl) (by kernel_rfl) (fun I hI' fw hf hback=>?_)
 simp only[List.take_succ_cons,List.take_zero,List.drop_succ_cons,List.drop_zero]
 have ca:∀j,(fw j).cell? ⟨g,5,none⟩=some (.int .u64 x5):=fun j=>(hA5.keep (hf j)).val (i:=5) (by simp)
 repeat (go_big_quiet_step (fail))
 refine wpQuiet_nil ?_
 intro w6 hq
 clear ca hf hback
 have co:=(hA5.keep hq).val (i:=5) (by simp)
 have zo:=(hA5.keep hq).frozen 5
 obtain⟨v6,hv⟩:∃v,w6.setCell ⟨g,5,none⟩ (.int .u64 y5)=v:=⟨_,rfl⟩
 have hA6:Has v6 g ty (vals .u64 [y0,y1,y2,y3,y4,y5]):=by rw[<-hv];exact (hA5.keep hq).set_ 5 (.int .u64 y5)
 have hO6:Only g w v6:=by rw[<-hv];exact (hO5.trans (Only.of_below hq g)).set_ (p:=⟨g,5,none⟩) rfl _
 clear hA5 hO5 hq
 go_wp2
 clear hv co zo w6
 go_end0
 exact⟨rfl,[y0,y1,y2,y3,y4,y5],hA6,rfl,BB.out,FIN.out,hO6⟩
set_option maxHeartbeats 2000000 in
theorem shiftUp_c (g:Nat)(ty:TypeId)(a:List Int)(hla:a.length=6)(hwa:Words a)(n t:Nat)(hnt:n+t=64)(w:World)(hA0:Has w g ty (vals .u64 a)) :
  Calls Tryz.prog 172 #[.pointer (some ⟨g,0,none⟩),.int .i64 (n:Int)] w fun e w'=>e=.returned (.tuple #[])/\∃o:List Int,Has w' g ty (vals .u64 o)/\o.length=6/\Words o/\(2^n*num a<wp 6->num o=2^n*num a)/\Only g w w':=by
 obtain⟨x0,x1,x2,x3,x4,x5,rfl⟩:=six_of hla
 obtain⟨bx0,bx1,bx2,bx3,bx4,bx5⟩:=words6 hwa
 have hti:(64:Int)-(n:Int)=(t:Int):=by omega
 have hO0:Only g w w:=Only.refl _ _
 obtain⟨hor1,B1⟩:=up_word hnt bx1 bx0
 obtain⟨hor2,B2⟩:=up_word hnt bx2 bx1
 obtain⟨hor3,B3⟩:=up_word hnt bx3 bx2
 obtain⟨hor4,B4⟩:=up_word hnt bx4 bx3
 obtain⟨hor5,B5⟩:=up_word hnt bx5 bx4
 obtain⟨hor0,B0⟩:=up_first hnt (x:=x0)
 obtain⟨y1,hy1⟩:∃y,2^n*(x1%2^t)+x0/2^t=y:=⟨_,rfl⟩
 obtain⟨y2,hy2⟩:∃y,2^n*(x2%2^t)+x1/2^t=y:=⟨_,rfl⟩
 obtain⟨y3,hy3⟩:∃y,2^n*(x3%2^t)+x2/2^t=y:=⟨_,rfl⟩
 obtain⟨y4,hy4⟩:∃y,2^n*(x4%2^t)+x3/2^t=y:=⟨_,rfl⟩
 obtain⟨y5,hy5⟩:∃y,2^n*(x5%2^t)+x4/2^t=y:=⟨_,rfl⟩
 obtain⟨y0,hy0⟩:∃y,2^n*(x0%2^t)=y:=⟨_,rfl⟩
 have FIN:Keep _:=⟨fun h0=>up_num hnt hwa h0⟩
 rw[hy1] at hor1 B1 FIN
 rw[hy2] at hor2 B2 FIN
 rw[hy3] at hor3 B3 FIN
 rw[hy4] at hor4 B4 FIN
 rw[hy5] at hor5 B5 FIN
 rw[hy0] at hor0 B0 FIN
 have BB:Keep _:=⟨words6_of B0 B1 B2 B3 B4 B5⟩
 clear bx0 B0 bx1 B1 bx2 B2 bx3 B3 bx4 B4 bx5 B5 hy0 hy1 hy2 hy3 hy4 hy5 hla hwa hnt
 go_enter Tryz.func172,Tryz.ntmps172
 go_wp2
 refine wp_fam 16 (by kernel_rfl) (by kernel_rfl) (fun I hI' fw hf hback=>?_)
 simp only[List.take_succ_cons,List.take_zero,List.drop_succ_cons,List.drop_zero]
 have ca:∀j,(fw j).cell? ⟨g,5,none⟩=some (.int .u64 x5):=fun j=>(hA0.keep (hf j)).val (i:=5) (by simp)
 have cb:∀j,(fw j).cell? ⟨g,4,none⟩=some (.int .u64 x4):=fun j=>(hA0.keep (hf j)).val (i:=4) (by simp)
 repeat (go_big_quiet_step (fail))
 refine wpQuiet_nil ?_
 intro w1 hq
 clear ca cb hf hback
 have co:=(hA0.keep hq).val (i:=5) (by simp)
 have zo:=(hA0.keep hq).frozen 5
 obtain⟨v1,hv⟩:∃v,w1.setCell ⟨g,5,none⟩ (.int .u64 y5)=v:=⟨_,rfl⟩
 have hA1:Has v1 g ty (vals .u64 [x0,x1,x2,x3,x4,y5]):=by rw[<-hv];exact (hA0.keep hq).set_ 5 (.int .u64 y5)
 have hO1:Only g w v1:=by rw[<-hv];exact (hO0.trans (Only.of_below hq g)).set_ (p:=⟨g,5,none⟩) rfl _
 clear hA0 hO0 hq
 go_wp2
 clear hv co zo w1
 go_wp2
 refine wp_fam 16 (by kernel_rfl) (by kernel_rfl) (fun I hI' fw hf hback=>?_)
 simp only[List.take_succ_cons,List.take_zero,List.drop_succ_cons,List.drop_zero]
 have ca:∀j,(fw j).cell? ⟨g,4,none⟩=some (.int .u64 x4):=fun j=>(hA1.keep (hf j)).val (i:=4) (by simp)
 have cb:∀j,(fw j).cell? ⟨g,3,none⟩=some (.int .u64 x3):=fun j=>(hA1.keep (hf j)).val (i:=3) (by simp)
 repeat (go_big_quiet_step (fail))
 refine wpQuiet_nil ?_
 intro w2 hq
 clear ca cb hf hback
 have co:=(hA1.keep hq).val (i:=4) (by simp)
 have zo:=(hA1.keep hq).frozen 4
 obtain⟨v2,hv⟩:∃v,w2.setCell ⟨g,4,none⟩ (.int .u64 y4)=v:=⟨_,rfl⟩
 have hA2:Has v2 g ty (vals .u64 [x0,x1,x2,x3,y4,y5]):=by rw[<-hv];exact (hA1.keep hq).set_ 4 (.int .u64 y4)
 have hO2:Only g w v2:=by rw[<-hv];exact (hO1.trans (Only.of_below hq g)).set_ (p:=⟨g,4,none⟩) rfl _
 clear hA1 hO1 hq
 go_wp2
 clear hv co zo w2
 go_wp2
 refine wp_fam 16 (by kernel_rfl) (by kernel_rfl) (fun I hI' fw hf hback=>?_)
 simp only[List.take_succ_cons,List.take_zero,List.drop_succ_cons,List.drop_zero]
 have ca:∀j,(fw j).cell? ⟨g,3,none⟩=some (.int .u64 x3):=fun j=>(hA2.keep (hf j)).val (i:=3) (by simp)
 have cb:∀j,(fw j).cell? ⟨g,2,none⟩=some (.int .u64 x2):=fun j=>(hA2.keep (hf j)).val (i:=2) (by simp)
 repeat (go_big_quiet_step (fail))
 refine wpQuiet_nil ?_
 intro w3 hq
 clear ca cb hf hback
 have co:=(hA2.keep hq).val (i:=3) (by simp)
 have zo:=(hA2.keep hq).frozen 3
 obtain⟨v3,hv⟩:∃v,w3.setCell ⟨g,3,none⟩ (.int .u64 y3)=v:=⟨_,rfl⟩
 have hA3:Has v3 g ty (vals .u64 [x0,x1,x2,y3,y4,y5]):=by rw[<-hv];exact (hA2.keep hq).set_ 3 (.int .u64 y3)
 have hO3:Only g w v3:=by rw[<-hv];exact (hO2.trans (Only.of_below hq g)).set_ (p:=⟨g,3,none⟩) rfl _
 clear hA2 hO2 hq
 go_wp2
 clear hv co zo w3
 go_wp2
 refine wp_fam 16 (by kernel_rfl) (by kernel_rfl) (fun I hI' fw hf hback=>?_)
 simp only[List.take_succ_cons,List.take_zero,List.drop_succ_cons,List.drop_zero]
 have ca:∀j,(fw j).cell? ⟨g,2,none⟩=some (.int .u64 x2):=fun j=>(hA3.keep (hf j)).val (i:=2) (by simp)
 have cb:∀j,(fw j).cell? ⟨g,1,none⟩=some (.int .u64 x1):=fun j=>(hA3.keep (hf j)).val (i:=1) (by simp)
 repeat (go_big_quiet_step (fail))
 refine wpQuiet_nil ?_
 intro w4 hq
 clear ca cb hf hback
 have co:=(hA3.keep hq).val (i:=2) (by simp)
 have zo:=(hA3.keep hq).frozen 2
 obtain⟨v4,hv⟩:∃v,w4.setCell ⟨g,2,none⟩ (.int .u64 y2)=v:=⟨_,rfl⟩
 have hA4:Has v4 g ty (vals .u64 [x0,x1,y2,y3,y4,y5]):=by rw[<-hv];exact (hA3.keep hq).set_ 2 (.int .u64 y2)
 have hO4:Only g w v4:=by rw[<-hv];exact (hO3.trans (Only.of_below hq g)).set_ (p:=⟨g,2,none⟩) rfl _
 clear hA3 hO3 hq
 go_wp2
 clear hv co zo w4
 go_wp2
 refine wp_fam 16 (by kernel_rfl) (by kernel_rfl) (fun I hI' fw hf hback=>?_)
 simp only[List.take_succ_cons,List.take_zero,List.drop_succ_cons,List.drop_zero]
 have ca:∀j,(fw j).cell? ⟨g,1,none⟩=some (.int .u64 x1):=fun j=>(hA4.keep (hf j)).val (i:=1) (by simp)
 have cb:∀j,(fw j).cell? ⟨g,0,none⟩=some (.int .u64 x0):=fun j=>(hA4.keep (hf j)).val (i:=0) (by simp)
 repeat (go_big_quiet_step (fail))
 refine wpQuiet_nil ?_
 intro w5 hq
 clear ca cb hf hback
 have co:=(hA4.keep hq).val (i:=1) (by simp)
 have zo:=(hA4.keep hq).frozen 1
 obtain⟨v5,hv⟩:∃v,w5.setCell ⟨g,1,none⟩ (.int .u64 y1)=v:=⟨_,rfl⟩
 have hA5:Has v5 g ty (vals .u64 [x0,y1,y2,y3,y4,y5]):=by rw[<-hv];exact (hA4.keep hq).set_ 1 (.int .u64 y1)
 have hO5:Only g w v5:=by rw[<-hv];exact (hO4.trans (Only.of_below hq g)).set_ (p:=⟨g,1,none⟩) rfl _
 clear hA4 hO4 hq
 go_wp2
 clear hv co zo w5
 go_wp2
 refine wp_fam 8 (by kernel_rfl) (by kernel_rfl) (fun I hI' fw hf hback=>?_)
 simp only[List.take_succ_cons,List.take_zero,List.drop_succ_cons,List.drop_zero]
 have ca:∀j,(fw j).cell? ⟨g,0,none⟩=some (.int .u64 x0):=fun j=>(hA5.keep (hf j)).val (i:=0) (by simp)
 repeat (go_big_quiet_step (fail))
 refine wpQuiet_nil ?_
 intro w6 hq
 clear ca hf hback
 have co:=(hA5.keep hq).val (i:=0) (by simp)
 have zo:=(hA5.keep hq).frozen 0
 obtain⟨v6,hv⟩:∃v,w6.setCell ⟨g,0,none⟩ (.int .u64 y0)=v:=⟨_,rfl⟩
 have hA6:Has v6 g ty (vals .u64 [y0,y1,y2,y3,y4,y5]):=by rw[<-hv];exact (hA5.keep hq).set_ 0 (.int .u64 y0)
 have hO6:Only g w v6:=by rw[<-hv];exact (hO5.trans (Only.of_below hq g)).set_ (p:=⟨g,0,none⟩) rfl _
 clear hA5 hO5 hq
 go_wp2
 clear hv co zo w6
 go_end0
 exact⟨rfl,[y0,y1,y2,y3,y4,y5],hA6,rfl,BB.out,FIN.out,hO6⟩
end Fp
namespace Fp
open Go Go.RowKit Reg Base Limb Bits
structure Far3 (a b c:Nat) (w w':World):Prop where
 has:∀g t cs,Has w g t cs->g≠a->g≠b->g≠c->Has w' g t cs
 below:∀B,B<=a->B<=b->B<=c->B<=w.heap.size->Below B w w'
 size:w.heap.size<=w'.heap.size
section
variable {a b c:Nat} {w w1 w2:World}
theorem Far3.refl (a b c:Nat)(w:World):Far3 a b c w w:=⟨fun _ _ _ h _ _ _=>h,fun _ _ _ _ _=>Below.refl _ _,Nat.le_refl _⟩
theorem Far3.onA (h:Far3 a b c w w1)(k:Only a w1 w2):Far3 a b c w w2:=
 ⟨fun g t cs hh h1 h2 h3=>k.has (h.has g t cs hh h1 h2 h3) h1,fun B h1 h2 h3 h4=>(h.below B h1 h2 h3 h4).trans (k.below h1 (Nat.le_trans h4 h.size)),Nat.le_trans h.size k.size⟩
theorem Far3.onB (h:Far3 a b c w w1)(k:Only b w1 w2):Far3 a b c w w2:=
 ⟨fun g t cs hh h1 h2 h3=>k.has (h.has g t cs hh h1 h2 h3) h2,fun B h1 h2 h3 h4=>(h.below B h1 h2 h3 h4).trans (k.below h2 (Nat.le_trans h4 h.size)),Nat.le_trans h.size k.size⟩
theorem Far3.onC (h:Far3 a b c w w1)(k:Only c w1 w2):Far3 a b c w w2:=
 ⟨fun g t cs hh h1 h2 h3=>k.has (h.has g t cs hh h1 h2 h3) h3,fun B h1 h2 h3 h4=>(h.below B h1 h2 h3 h4).trans (k.below h3 (Nat.le_trans h4 h.size)),Nat.le_trans h.size k.size⟩
end
theorem pow_small {d:Nat}{v v':Int}(h:v=2^d*v')(h1:0<v')(h2:v<wp 6):d<384:=by
 rcases Nat.lt_or_ge d 384 with h3|h3
 ·exact h3
 ·exfalso
  have h4:=tp_le h3
  have h5:tp 384=wp 6:=tp_wp 6
  have h6:tp d*1<=tp d*v':=Int.mul_le_mul_of_nonneg_left (by omega) (Int.le_of_lt (tp_pos d))
  have h7:v=tp d*v':=h
  omega
theorem odd_round {v v' v2 r r':Int}{d n:Nat}(hv:v=2^d*v')(hr:r'=2^d*r)(hv0:0<v')(hr0:0<=r)(hvr:v*r<wp 6)(h2:v'=2^n*v2)(hn:1<=n):0<v2/\v2<v'/\2^n*r'<wp 6/\v=2^(d+n)*v2:=by
 have p:(0:Int)<2^n:=Int.pow_pos (by omega)
 have p2:(2:Int)<=2^n:=by
  obtain⟨m,rfl⟩:∃m,n=m+1:=⟨n-1,by omega⟩
  have:(0:Int)<2^m:=Int.pow_pos (by omega)
  rw[Int.pow_succ]
  omega
 have q:0<v2:=by
  rcases Int.lt_or_le 0 v2 with h|h
  ·exact h
  ·exfalso
   have:2^n*v2<=2^n*0:=Int.mul_le_mul_of_nonneg_left h (by omega)
   omega
 have q2:2*v2<=2^n*v2:=Int.mul_le_mul_of_nonneg_right p2 (by omega)
 have pd:(0:Int)<2^d:=Int.pow_pos (by omega)
 have hr'0:0<=r':=by rw[hr];exact Int.mul_nonneg (by omega) hr0
 refine⟨q,by omega,?_,by rw[hv,h2,Int.pow_add,Int.mul_assoc]⟩
 have e:v*r=v'*r':=by rw[hv,hr];grind
 have h3:2^n*1<=2^n*v2:=Int.mul_le_mul_of_nonneg_left (by omega) (by omega)
 have h4:2^n*r'<=v'*r':=Int.mul_le_mul_of_nonneg_right (by omega) hr'0
 omega
set_option maxHeartbeats 2000000 in
theorem makeOdd_c (gn go gd:Nat)(tn to td:TypeId)(v r:List Int)(D:Nat)(hlv:v.length=6)(hwv:Words v)(hlr:r.length=6)(hwr:Words r)(hv:0<num v)(hvr:num v*num r<wp 6)(hD:D<=100000)(hno:gn≠go)(hnd:gn≠gd)(hod:go≠gd)
    (hfn:FreeD gn) (hfo:FreeD go) (hfd:FreeD gd) (w:World) (hG:GlobD w) (hN:Has w gn tn (vals .u64 v)) (hO:Has w go to (vals .u64 r)) (hE:Has w gd td (vals .i64 [(D:Int)])) :
    Calls Tryz.prog 169 #[.pointer (some ⟨gn,0,none⟩),.pointer (some ⟨go,0,none⟩),.pointer (some ⟨gd,0,none⟩)] w fun e w'=>e=.returned (.tuple #[])/\∃(v' r':List Int) (d:Nat),Has w' gn tn (vals .u64 v')/\Has w' go to (vals .u64 r')/\Has w' gd td (vals .i64 [((D+d:Nat):Int)])/\(v'.length=6/\Words v'/\r'.length=6/\Words r'/\0<num v'/\num v=2^d*num v'/\num r'=2^d*num r)/\GlobD w'/\Far3 gn go gd w w':=by
  have HV:Keep (0<=num r/\num v*num r<wp 6/\num v<wp 6):=⟨(num6 hwr hlr).1,hvr,(num6 hwv hlv).2⟩
  have FN:Keep _:=⟨hfn⟩
  have FO:Keep _:=⟨hfo⟩
  have FD:Keep _:=⟨hfd⟩
  have HI0:Keep (v.length=6/\Words v/\r.length=6/\Words r/\0<num v/\num v=2^0*num v/\num r=2^0*num r):=⟨hlv,hwv,hlr,hwr,hv,by simp,by simp⟩
  have HG0:Keep _:=⟨hG⟩
  have hF0:=Far3.refl gn go gd w
  have hn0:num v<=((num v).toNat:Int):=by omega
  clear hlv hwv hlr hwr hv hvr hfn hfo hfd hG
  go_enter Tryz.func169,Tryz.ntmps169
  go_wp2
  go_loopg [] (num v).toNat (fun (gk:Nat) wr=>∃(v' r':List Int) (d:Nat),Keep (v'.length=6/\Words v'/\r'.length=6/\Words r'/\0<num v'/\num v=2^d*num v'/\num r'=2^d*num r)/\Keep (num v'<=(gk:Int))/\Has wr gn tn (vals .u64 v')/\Has wr go to (vals .u64 r')/\Has wr gd td (vals .i64 [((D+d:Nat):Int)])/\Keep (GlobD wr)/\Far3 gn go gd w wr)
  case atStart=>exact⟨v,r,0,HI0,⟨hn0⟩,hN,hO,hE,HG0,hF0⟩
  case round=>
    clear hN hO hE HG0 hF0 hn0 HI0
    obtain⟨v',r',d,HI,HK,hN,hO,hE,HG,hF⟩:=hrel
    obtain⟨x,hx⟩:∃x,nth v' 0=x:=⟨_,rfl⟩
    have bx:0<=x/\x<=18446744073709551615:=hx▸HI.out.2.1 0
    have c0:wr.cell? ⟨gn,0,none⟩=some (.int .u64 x):=by rw[<-hx];exact hN.val (by rw[HI.out.1];omega)
    have HX:Keep _:=⟨hx⟩
    clear hx
    by_cases hp:x%2=0
    · obtain⟨n,hn64,hdiv,hn1,HC⟩:=tz_c x bx wr HG.out
      have hn:1<=n:=hn1 hp
      have HC':Keep _:=⟨HC⟩
      obtain⟨t,hnt⟩:∃t,n+t=64:=⟨64-n,by omega⟩
      have NT:Keep (n+t=64/\nth v' 0%2^n=0/\1<=n):=⟨hnt,by rw[HX.out];exact hdiv,hn⟩
      have ORF:Keep (∀v2:Int,num v'=2^n*v2->0<v2/\v2<num v'/\2^n*num r'<wp 6/\num v=2^(d+n)*v2):=⟨fun v2 h2=>odd_round HI.out.2.2.2.2.2.1 HI.out.2.2.2.2.2.2 HI.out.2.2.2.2.1 HV.out.1 HV.out.2.1 h2 NT.out.2.2⟩
      have hd:=pow_small HI.out.2.2.2.2.2.1 HI.out.2.2.2.2.1 HV.out.2.2
      have hwr:wrap64 ((D:Int)+(d:Int)+(n:Int))=((D+(d+n):Nat):Int):=by unfold wrap64;omega
      obtain⟨E,hE'⟩:∃E:Int,((D+(d+n):Nat):Int)=E:=⟨_,rfl⟩
      rw[hE'] at hwr
      have HE':Keep _:=⟨hE'⟩
      clear hE'
      have hb:(x.tmod 2==0)=true:=by rw[beq_iff_eq,Int.tmod_eq_emod_of_nonneg bx.1];exact hp
      clear HC hnt hdiv hn1 hn hp hn64 bx
      go_wp2_with (first
        | (go_at_call 172
           refine (shiftUp_c go to r' HI.out.2.2.1 HI.out.2.2.2.1 n t NT.out.1 _ hO2).mono ?_
           rintro e w3 ⟨rfl,r2,hO3,hl3,hw3,he3,ho⟩
           have hN3:=ho.has hN2 hno
           have hE3:=ho.has hE2 (Ne.symm hod)
           have HG3:Keep _:=⟨HG2.out.only ho FO.out⟩
           have hF3:=hF2.onB ho
           have HR2:Keep (r2.length=6/\Words r2/\num r2=2^n*num r'):=⟨hl3,hw3,he3 OR.out.2.2.1⟩
           have ce:=hE3.val (i:=0) (by simp)
           have ze:=hE3.frozen 0
           simp only[nth,List.getD_cons_zero] at ce
           clear hN2 hO2 hE2 hF2 ho hl3 hw3 he3)
        | (go_at_call 171
           refine (shiftDown_c gn tn v' HI.out.1 HI.out.2.1 n t NT.out.1 _ hN).mono ?_
           rintro e w2 ⟨rfl,v2,hN2,hl2,hw2,he2,ho⟩
           have hO2:=ho.has hO (Ne.symm hno)
           have hE2:=ho.has hE (Ne.symm hnd)
           have HG2:Keep _:=⟨HG.out.only ho FN.out⟩
           have hF2:=hF.onA ho
           have OR:Keep _:=⟨ORF.out _ (he2 NT.out.2.1)⟩
           have HV2:Keep (v2.length=6/\Words v2):=⟨hl2,hw2⟩
           clear hN hO hE hF ho hl2 hw2 he2 c0)
        | (go_at_call 170
           refine HC'.out.mono ?_
           rintro e w1 ⟨rfl,rfl⟩))
      have hE4:=hE3.set_ 0 (.int .i64 E)
      rw[vals_set] at hE4
      have ho4:Only gd w3 (w3.setCell ⟨gd,0,none⟩ (.int .i64 E)):=(Only.refl gd w3).set_ (p:=⟨gd,0,none⟩) rfl _
      have hN4:=ho4.has hN3 hnd
      have hO4:=ho4.has hO3 hod
      have HG4:Keep _:=⟨HG3.out.only ho4 FD.out⟩
      have hF4:=hF3.onC ho4
      have hE5:Has (w3.setCell ⟨gd,0,none⟩ (.int .i64 E)) gd td (vals .i64 [((D+(d+n):Nat):Int)]):=by rw[HE'.out];exact hE4
      have HI4:Keep (v2.length=6/\Words v2/\r2.length=6/\Words r2/\0<num v2/\num v=2^(d+n)*num v2/\num r2=2^(d+n)*num r):=⟨HV2.out.1,HV2.out.2,HR2.out.1,HR2.out.2.1,OR.out.1,OR.out.2.2.2,by rw[HR2.out.2.2,HI.out.2.2.2.2.2.2,Int.pow_add];grind⟩
      have hk1:=HK.out
      have hk2:=OR.out.1
      have hk3:=OR.out.2.1
      go_roundg (gk-1)
      case measure=>omega
      case rel=>exact⟨v2,r2,d+n,HI4,⟨by omega⟩,hN4,hO4,hE5,HG4,hF4⟩
    · have hb:(x.tmod 2==0)=false:=by rw[beq_eq_false_iff_ne,Int.tmod_eq_emod_of_nonneg bx.1];exact hp
      go_wp2
      go_end0
      exact⟨rfl,v',r',d,hN,hO,hE,HI.out,HG.out,hF⟩
end Fp
namespace Fp
open Go Go.RowKit Reg Base Limb Bits
structure Euc (A u v r s:Int) (D:Nat):Prop where
 u0:0<u
 v0:0<v
 r0:0<=r
 s0:0<=s
 sum:u*s+v*r=PP
 hs:(A*s-v*2^D)%PP=0
 hr:(A*r+u*2^D)%PP=0
 pr:u*v*2^D<=PP*A
 vA:v<=A
section
variable {A u v r s:Int} {D:Nat}
theorem Euc.start (h0:0<A):Euc A PP A 0 1 0:=
 ⟨PP_pos,h0,by omega,by omega,by simp,by simp,by simp,by simp,by omega⟩
theorem Euc.odd_v (h:Euc A u v r s D){d:Nat}{v' r':Int}(hv:v=2^d*v')(h0:0<v')(hr:r'=2^d*r):Euc A u v' r' s (D+d):=by
 have p:(0:Int)<2^d:=Int.pow_pos (by omega)
 have hle:v'<=v:=by
  have:1*v'<=2^d*v':=Int.mul_le_mul_of_nonneg_right (by omega) (by omega)
  omega
 refine⟨h.u0,h0,by rw[hr];exact Int.mul_nonneg (by omega) h.r0,h.s0,?_,?_,?_,?_,by have:=h.vA;omega⟩
 ·rw[<-h.sum,hv,hr];grind
 ·rw[Int.pow_add,show A*s-v'*(2^D*2^d)=A*s-v*2^D by rw[hv];grind];exact h.hs
 ·rw[hr,Int.pow_add,show A*(2^d*r)+u*(2^D*2^d)=(A*r+u*2^D)*2^d by grind,Int.mul_emod,h.hr];simp
 ·rw[Int.pow_add,show u*v'*(2^D*2^d)=u*v*2^D by rw[hv];grind];exact h.pr
theorem Euc.odd_u (h:Euc A u v r s D){d:Nat}{u' s':Int}(hu:u=2^d*u')(h0:0<u')(hs:s'=2^d*s):Euc A u' v r s' (D+d):=by
 refine⟨h0,h.v0,h.r0,by rw[hs];exact Int.mul_nonneg (Int.le_of_lt (Int.pow_pos (by omega))) h.s0,?_,?_,?_,?_,h.vA⟩
 ·rw[<-h.sum,hu,hs];grind
 ·rw[hs,Int.pow_add,show A*(2^d*s)-v*(2^D*2^d)=(A*s-v*2^D)*2^d by grind,Int.mul_emod,h.hs];simp
 ·rw[Int.pow_add,show A*r+u'*(2^D*2^d)=A*r+u*2^D by rw[hu];grind];exact h.hr
 ·rw[Int.pow_add,show u'*v*(2^D*2^d)=u*v*2^D by rw[hu];grind];exact h.pr
theorem Euc.sub_v (h:Euc A u v r s D)(hlt:u<v){v' s':Int}(hv:v'=v-u)(hs:s'=s+r):Euc A u v' r s' D:=by
 have h1:=h.u0
 refine⟨h.u0,by omega,h.r0,by have:=h.r0;have:=h.s0;omega,?_,?_,h.hr,?_,by have:=h.vA;omega⟩
 ·rw[<-h.sum,hv,hs];grind
 ·rw[hv,hs,show A*(s+r)-(v-u)*2^D=(A*s-v*2^D)+(A*r+u*2^D) by grind,Int.add_emod,h.hs,h.hr];rfl
 ·have p:(0:Int)<2^D:=Int.pow_pos (by omega)
  have h2:u*v'<=u*v:=Int.mul_le_mul_of_nonneg_left (by omega) (by omega)
  have h3:u*v'*2^D<=u*v*2^D:=Int.mul_le_mul_of_nonneg_right h2 (by omega)
  have:=h.pr
  omega
theorem Euc.sub_u (h:Euc A u v r s D)(hlt:v<u){u' r':Int}(hu:u'=u-v)(hr:r'=r+s):Euc A u' v r' s D:=by
 have h1:=h.v0
 refine⟨by omega,h.v0,by have:=h.r0;have:=h.s0;omega,h.s0,?_,h.hs,?_,?_,h.vA⟩
 ·rw[<-h.sum,hu,hr];grind
 ·rw[hu,hr,show A*(r+s)+(u-v)*2^D=(A*r+u*2^D)+(A*s-v*2^D) by grind,Int.add_emod,h.hs,h.hr];rfl
 ·have p:(0:Int)<2^D:=Int.pow_pos (by omega)
  have h2:u'*v<=u*v:=Int.mul_le_mul_of_nonneg_right (by omega) (by omega)
  have h3:u'*v*2^D<=u*v*2^D:=Int.mul_le_mul_of_nonneg_right h2 (by omega)
  have:=h.pr
  omega
theorem Euc.fit (h:Euc A u v r s D):v*r<wp 6/\u*s<wp 6/\s+r<wp 6:=by
 have h1:=h.u0
 have h2:=h.v0
 have h3:=h.r0
 have h4:=h.s0
 have h5:=h.sum
 have h6:=PP_lt
 have h7:0<=v*r:=Int.mul_nonneg (by omega) h3
 have h8:0<=u*s:=Int.mul_nonneg (by omega) h4
 have h9:1*s<=u*s:=Int.mul_le_mul_of_nonneg_right (by omega) h4
 have h10:1*r<=v*r:=Int.mul_le_mul_of_nonneg_right (by omega) h3
 omega
theorem Euc.small (h:Euc A u v r s D)(hA:A<PP):D<=767:=by
 rcases Nat.lt_or_ge D 768 with h1|h1
 ·omega
 ·exfalso
  have h2:=tp_le h1
  have h3:tp 768=wp 12:=tp_wp 12
  have h4:wp 12=wp 6*wp 6:=wp_add 6 6
  have h5:1*tp D<=u*v*tp D:=Int.mul_le_mul_of_nonneg_right (by have:=Int.mul_pos h.u0 h.v0;omega) (Int.le_of_lt (tp_pos D))
  have h6:u*v*tp D<=PP*A:=h.pr
  have h7:PP*A<=PP*PP:=Int.mul_le_mul_of_nonneg_left (Int.le_of_lt hA) (Int.le_of_lt PP_pos)
  have h8:PP*PP<wp 6*wp 6:=by decide +kernel
  omega
theorem Euc.done (h:Euc A u u r s D)(hA:A<PP):(A*s)%PP=2^D%PP:=by
 obtain⟨p,hp,e⟩:=PP_prime
 have h1:u*(s+r)=PP:=by rw[<-h.sum];grind
 have h2:=h.u0
 have h3:=h.vA
 have hd:u.toNat ∣ p:=by
  have h4:(u.toNat:Int) ∣ (p:Int):=by
   rw[Int.toNat_of_nonneg (by omega),<-e,<-h1]
   exact Int.dvd_mul_right _ _
  exact_mod_cast h4
 have hu:u=1:=by
  rcases hp.2 _ hd with h5|h5
  ·omega
  ·exfalso
   omega
 have h6:=h.hs
 rw[hu,Int.one_mul] at h6
 have h7:=Int.emod_emod_of_dvd (A*s) (Int.dvd_refl PP)
 have h8:(A*s-2^D)%PP=0:=h6
 have h9:=Int.emod_eq_emod_iff_emod_sub_eq_zero.2 h8
 exact h9
end
end Fp
end Go.Proofs.YtjamcbjghffboaaGreatDoor
