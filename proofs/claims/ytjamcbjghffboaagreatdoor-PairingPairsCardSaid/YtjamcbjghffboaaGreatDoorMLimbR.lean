/-
  Own text.
-/
import Derived.Test.YtjamcbjghffboaaGreatDoorMReg
namespace Go.Proofs.YtjamcbjghffboaaGreatDoor
namespace Limb
open Go Go.RowKit Reg Base
theorem add_step {o a b:List Int}{k:Nat}{cy t nx:Int}(ho:o.length=k)(hi:num o+wp k*cy=low a k+low b k)(hx:t+18446744073709551616*nx=nth a k+nth b k+cy) :
  num (o++[t])+wp (k+1)*nx=low a (k+1)+low b (k+1):=by
 rw[num_snoc,ho,wp_succ,low_succ,low_succ]
 grind
theorem sub_step {o a b:List Int}{k:Nat}{cy t nx:Int}(ho:o.length=k)(hi:num o-wp k*cy=low a k-low b k)(hx:t-18446744073709551616*nx=nth a k-nth b k-cy) :
  num (o++[t])-wp (k+1)*nx=low a (k+1)-low b (k+1):=by
 rw[num_snoc,ho,wp_succ,low_succ,low_succ]
 grind
end Limb
namespace Limb
open Go Go.RowKit Reg Base
def cmpL (a b:List Int):Int:=if num a<num b then -1 else if num a=num b then 0 else 1
theorem num_low {l:List Int}{k:Nat}(h:l.length<=k):num l=low l k:=(low_num h).symm
theorem low_high {a b:List Int}{k:Nat}(h:∀j,k<=j->nth a j=nth b j):∀d,low a (k+d)-low b (k+d)=low a k-low b k
 |0=>rfl
 |d+1=>by
  rw[<-Nat.add_assoc,low_succ,low_succ,h (k+d) (by omega)]
  have:=low_high h d
  omega
theorem num_high {a b:List Int}{k:Nat}(h:∀j,k<=j->nth a j=nth b j):num a-num b=low a k-low b k:=by
 rw[num_low (show a.length<=k+(a.length+b.length) by omega),num_low (show b.length<=k+(a.length+b.length) by omega)]
 exact low_high h _
theorem low_less {a b:List Int}(ha:Words a)(hb:Words b){k:Nat}(h:nth a k<nth b k):low a (k+1)<low b (k+1):=by
 rw[low_succ,low_succ]
 have h1:=low_bounds ha k
 have h2:=low_bounds hb k
 have h3:wp k*(nth a k+1)<=wp k*nth b k:=Int.mul_le_mul_of_nonneg_left (by omega) (Int.le_of_lt (wp_pos k))
 rw[Int.mul_add,Int.mul_one] at h3
 omega
theorem cmp_lt {a b:List Int}(ha:Words a)(hb:Words b){k:Nat}(he:∀j,k+1<=j->nth a j=nth b j)(h:nth a k<nth b k):cmpL a b=-1:=by
 have h1:=num_high he
 have h2:=low_less ha hb h
 unfold cmpL
 rw[if_pos (by omega)]
theorem cmp_gt {a b:List Int}(ha:Words a)(hb:Words b){k:Nat}(he:∀j,k+1<=j->nth a j=nth b j)(h:nth b k<nth a k):cmpL a b=1:=by
 have h1:=num_high he
 have h2:=low_less hb ha h
 unfold cmpL
 rw[if_neg (by omega),if_neg (by omega)]
theorem cmp_eq {a b:List Int}(he:∀j,0<=j->nth a j=nth b j):cmpL a b=0:=by
 have h1:=num_high he
 rw[low_zero,low_zero] at h1
 unfold cmpL
 rw[if_neg (by omega),if_pos (by omega)]
end Limb
namespace Limb
open Go Go.RowKit Reg Base
def tp (k:Nat):Int:=2^k
theorem tp_zero:tp 0=1:=rfl
theorem tp_succ (k:Nat):tp (k+1)=tp k*2:=Int.pow_succ _ _
theorem tp_pos (k:Nat):0<tp k:=Int.pow_pos (by omega)
theorem tp_add (a b:Nat):tp (a+b)=tp a*tp b:=Int.pow_add _ _ _
theorem tp_wp (k:Nat):tp (64*k)=wp k:=by
 induction k with
 |zero=>rfl
 |succ k ih=>rw[Nat.mul_succ,tp_add,ih,wp_succ];rfl
theorem div_div {a b c:Int}(hb:0<b):a/b/c=a/(b*c):=by
 rw[Int.ediv_ediv]
 rw[if_neg (by omega),Int.sub_zero]
def bitL (l:List Int)(i:Nat):Int:=nth l (i/64)/tp (i%64)%2
theorem low_div (l:List Int)(hw:Words l)(q d:Nat):low l (q+1+d)/wp q%18446744073709551616=nth l q:=by
 have h1:∃z,low l (q+1+d)=low l q+wp q*(nth l q+18446744073709551616*z):=by
  induction d with
  |zero=>exact⟨0,by rw[Nat.add_zero,low_succ];grind⟩
  |succ d ih=>
   obtain⟨z,hz⟩:=ih
   refine⟨z+wp d*nth l (q+1+d),?_⟩
   rw[<-Nat.add_assoc,low_succ,hz,wp_add,wp_succ]
   grind
 obtain⟨z,hz⟩:=h1
 have hb:=low_bounds hw q
 have hq:=hw q
 rw[(split_of hb.1 hb.2 hz.symm).2]
 omega
theorem num_word (l:List Int)(hw:Words l)(q:Nat):num l/wp q%18446744073709551616=nth l q:=by
 rw[num_low (show l.length<=q+1+l.length by omega)]
 exact low_div l hw q _
theorem num_bit {l:List Int}(hw:Words l)(i:Nat):num l/tp i%2=bitL l i:=by
 have h:=num_word l hw (i/64)
 have hi:tp i=wp (i/64)*tp (i%64):=by rw[<-tp_wp,<-tp_add];congr 1;omega
 rw[bitL,<-h,hi,<-div_div (wp_pos _)]
 obtain⟨v,hv⟩:∃v,num l/wp (i/64)=v:=⟨_,rfl⟩
 rw[hv]
 have hm:i%64<64:=Nat.mod_lt _ (by omega)
 obtain⟨d,hd⟩:∃d,63=i%64+d:=⟨63-i%64,by omega⟩
 have hW:(18446744073709551616:Int)=tp (i%64)*(2*tp d):=by
  have h64:(18446744073709551616:Int)=tp (i%64+(1+d)):=by rw[show i%64+(1+d)=64 by omega];rfl
  rw[tp_add,tp_add] at h64
  exact h64
 have e:=Int.mul_ediv_add_emod v 18446744073709551616
 have b:=Int.emod_nonneg v (b:=18446744073709551616) (by omega)
 have e2:=Int.mul_ediv_add_emod (v%18446744073709551616) (tp (i%64))
 have b2:=Int.emod_nonneg (v%18446744073709551616) (Int.ne_of_gt (tp_pos (i%64)))
 have b3:=Int.emod_lt_of_pos (v%18446744073709551616) (tp_pos (i%64))
 obtain⟨r,hr⟩:∃r,v%18446744073709551616%tp (i%64)=r:=⟨_,rfl⟩
 obtain⟨q,hq⟩:∃q,v%18446744073709551616/tp (i%64)=q:=⟨_,rfl⟩
 rw[hr,hq] at e2
 rw[hr] at b2 b3
 have e3:r+tp (i%64)*(q+2*(tp d*(v/18446744073709551616)))=v:=by
  rw[hW] at e e2 ⊢
  grind
 rw[(split_of b2 b3 e3).2,hq]
 omega
theorem num_shift (v:Int)(i:Nat):v/tp i=2*(v/tp (i+1))+v/tp i%2:=by
 rw[tp_succ,<-div_div (tp_pos i)]
 omega
theorem and_one {x:Int}(h0:0<=x)(h1:x<=18446744073709551615):bits .and .u64 x 1=x%2:=by
 have h2:x<18446744073709551616:=by omega
 go_bits2
theorem shr_bounds {y:Int}(h0:0<=y)(h1:y<=18446744073709551615)(k:Nat):0<=y/2^k/\y/2^k<=18446744073709551615:=by
 have hp:(0:Int)<2^k:=Int.pow_pos (by omega)
 refine⟨Int.ediv_nonneg h0 (Int.le_of_lt hp),?_⟩
 have:=Int.ediv_le_self (2^k) h0
 omega
end Limb
namespace Limb
open Go Go.RowKit Reg Base
end Limb
namespace Limb
open Go Go.RowKit Reg Base
end Limb
end Go.Proofs.YtjamcbjghffboaaGreatDoor
