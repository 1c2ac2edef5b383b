/-
  Own text.
-/
import Derived.Test.YtfjiinaekcibhaaGreatDoorLimbOwnD
namespace Go.Proofs.YtfjiinaekcibhaaGreatDoor
namespace Limb
open Go Go.RowKit Reg Base Bits
theorem prod_less {u v:Int}{i j:Nat}(u0:0≤u)(u1:u<wp i)(v0:0≤v)(v1:v<wp j):0≤u*v∧u*v<wp (i+j):=by
 refine⟨Int.mul_nonneg u0 v0,?_⟩
 rw[wp_add]
 have h1:u*v≤u*wp j:=Int.mul_le_mul_of_nonneg_left (by omega) u0
 have h2:u*wp j<wp i*wp j:=Int.mul_lt_mul_of_pos_right u1 (wp_pos j)
 omega
theorem wp_le {i j:Nat}(h:i≤j):wp i≤wp j:=by
 obtain⟨d,rfl⟩:∃d,j=i+d:=⟨j-i,by omega⟩
 rw[wp_add]
 have h1:=wp_pos i
 have h2:=wp_pos d
 have:wp i*1≤wp i*wp d:=Int.mul_le_mul_of_nonneg_left (by omega) (by omega)
 omega
theorem row_step {a b o l:List Int}{n n' i:Nat}{cy:Int}(ha:Words a)(hb:Words b)(_la:a.length=n)(lb:b.length=n')(hi:i<n)(hl:l=wd (n+n') (low a i*num b))(ho:Words o)(lo:o.length=n')(hc0:0≤cy)(hc1:cy≤18446744073709551615)
  (he:num o+wp n'*cy=low (l.drop i) n'+nth a i*low b n'):(l.take i++(o++l.drop (i+n'))).set (i+n') cy=wd (n+n') (low a (i+1)*num b):=by
 have ll:l.length=n+n':=by rw[hl,wd_len]
 have wl:Words l:=by rw[hl];exact wd_words _ _
 have bb:=num_bounds hb
 rw[lb] at bb
 have ba:=low_bounds ha i
 have ba':=low_bounds ha (i+1)
 have p1:=prod_less ba.1 ba.2 bb.1 bb.2
 have p2:=prod_less ba'.1 ba'.2 bb.1 bb.2
 have w1:=wp_le (show i+n'≤n+n' by omega)
 have w2:=wp_le (show i+1+n'≤n+n' by omega)
 have hz:nth l (i+n')=0:=by rw[hl,wd_nth _ (by omega),Int.ediv_eq_zero_of_lt p1.1 p1.2];rfl
 have hn:num l=low a i*num b:=by rw[hl];exact num_wd_of p1.1 (by omega)
 rw[mid_set lo (by omega)]
 refine num_inj (words_append (words_take wl _) (words_append (words_append ho (words_one hc0 hc1)) (words_drop wl _))) (wd_words _ _) (by simp[wd_len,lo,ll];omega) ?_
 have lt:(l.take i).length=i:=by simp[ll];omega
 rw[num_wd_of p2.1 (by omega),num_append,lt,num_append,num_snoc,List.length_append,lo,List.length_singleton,low_succ,Int.add_mul,←hn]
 have s1:num l=num (l.take i)+wp i*num (l.drop i):=by
  have h:=num_append (l.take i) (l.drop i)
  rw[List.take_append_drop,lt] at h
  exact h
 have s2:num (l.drop i)=low (l.drop i) n'+wp n'*num (l.drop (i+n')):=by
  have h:=num_split (l.drop i) n' (by simp[ll];omega)
  rw[List.drop_drop] at h
  exact h
 have s3:num (l.drop (i+n'))=18446744073709551616*num (l.drop (i+(n'+1))):=by
  rw[num_drop (by omega),hz,Int.zero_add];rfl
 have s4:low b n'=num b:=by rw[←lb];rfl
 rw[s4] at he
 rw[s1,s2,s3,he,wp_succ]
 grind
end Limb
end Go.Proofs.YtfjiinaekcibhaaGreatDoor
