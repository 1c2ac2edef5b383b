/-
  Own text.
-/
import Derived.Test.YtjamcbjghffboaaGreatDoorMReg
import Derived.Test.YtjamcbjghffboaaGreatDoorMFp2M
set_option linter.unusedVariables false
namespace Go.Proofs.YtjamcbjghffboaaGreatDoor
namespace Ring
structure Rg (α:Type) where
 add:α->α->α
 mul:α->α->α
 int:Int->α
 add_comm:∀a b,add a b=add b a
 add_assoc:∀a b c,add (add a b) c=add a (add b c)
 mul_comm:∀a b,mul a b=mul b a
 mul_assoc:∀a b c,mul (mul a b) c=mul a (mul b c)
 dist:∀a b c,mul a (add b c)=add (mul a b) (mul a c)
 int_add:∀a b,int (a+b)=add (int a) (int b)
 int_mul:∀a b,int (a*b)=mul (int a) (int b)
 add_zero:∀a,add a (int 0)=a
 mul_one:∀a,mul a (int 1)=a
 mul_zero:∀a,mul a (int 0)=int 0
inductive Ex where
 |v (i:Nat)
 |n (z:Int)
 |a (p q:Ex)
 |s (p q:Ex)
 |m (p q:Ex)
 |g (p:Ex)
instance:Mul Ex:=⟨.m⟩
instance:Add Ex:=⟨.a⟩
instance:Sub Ex:=⟨.s⟩
abbrev V0:Ex:=.v 0
abbrev V1:Ex:=.v 1
abbrev V2:Ex:=.v 2
abbrev V3:Ex:=.v 3
abbrev V4:Ex:=.v 4
abbrev V5:Ex:=.v 5
abbrev V6:Ex:=.v 6
abbrev V7:Ex:=.v 7
abbrev V8:Ex:=.v 8
abbrev V9:Ex:=.v 9
abbrev V10:Ex:=.v 10
abbrev V11:Ex:=.v 11
abbrev V12:Ex:=.v 12
abbrev V13:Ex:=.v 13
abbrev V14:Ex:=.v 14
abbrev V15:Ex:=.v 15
abbrev Cn(z:Int):Ex:=.n z
section
variable {α:Type} (R:Rg α) (en:Nat->α)
def pwr (x:α):Nat->α
 |0=>R.int 1
 |k+1=>R.mul (pwr x k) x
def Ex.val:Ex->α
 |.v i=>en i
 |.n z=>R.int z
 |.a p q=>R.add (p.val) (q.val)
 |.s p q=>R.add (p.val) (R.mul (R.int (-1)) (q.val))
 |.m p q=>R.mul (p.val) (q.val)
 |.g p=>R.mul (R.int (-1)) (p.val)
abbrev Mo:=List Nat
def Mo.val:Nat->Mo->α
 |_,[]=>R.int 1
 |i,e :: m=>R.mul (pwr R (en i) e) (Mo.val (i+1) m)
def Mo.mul:Mo->Mo->Mo
 |[],m=>m
 |e :: l,[]=>e :: l
 |e :: l,f :: m=>(e+f) :: Mo.mul l m
abbrev Po:=List (Mo×Int)
def Po.val:Po->α
 |[]=>R.int 0
 |(m,c) :: p=>R.add (R.mul (R.int c) (Mo.val R en 0 m)) (Po.val p)
end
def Mo.cmp:Mo->Mo->Nat
 |[],[]=>0
 |[],_ :: _=>1
 |_ :: _,[]=>2
 |e :: l,f :: m=>match Nat.beq e f with
  |true=>Mo.cmp l m
  |false=>match Nat.ble e f with
   |true=>1
   |false=>2
def isz:Int->Bool
 |.ofNat 0=>true
 |_=>false
def Po.add:Nat->Po->Po->Po
 |0,p,q=>p++q
 |_+1,[],q=>q
 |_+1,x :: p,[]=>x :: p
 |n+1,(m,c) :: p,(k,d) :: q=>match Mo.cmp m k with
  |0=>match isz (c+d) with
   |true=>Po.add n p q
   |false=>(m,c+d) :: Po.add n p q
  |1=>(m,c) :: Po.add n p ((k,d) :: q)
  |_=>(k,d) :: Po.add n ((m,c) :: p) q
def Po.one (m:Mo)(c:Int):Po->Po
 |[]=>[]
 |(k,d) :: p=>(Mo.mul m k,c*d) :: Po.one m c p
def Po.mul:Po->Po->Po
 |[],_=>[]
 |(m,c) :: p,q=>Po.add 100000 (Po.one m c q) (Po.mul p q)
def Ex.norm:Ex->Po
 |.v i=>[(List.replicate i 0++[1],1)]
 |.n z=>if z=0 then [] else [([],z)]
 |.a p q=>Po.add 100000 p.norm q.norm
 |.s p q=>Po.add 100000 p.norm (Po.one [] (-1) q.norm)
 |.m p q=>Po.mul p.norm q.norm
 |.g p=>Po.one [] (-1) p.norm
section
variable {α:Type} (R:Rg α) (en:Nat->α)
theorem one_mul (a:α):R.mul (R.int 1) a=a:=by rw[R.mul_comm,R.mul_one]
theorem zero_add (a:α):R.add (R.int 0) a=a:=by rw[R.add_comm,R.add_zero]
theorem zero_mul (a:α):R.mul (R.int 0) a=R.int 0:=by rw[R.mul_comm,R.mul_zero]
theorem dist' (a b c:α):R.mul (R.add a b) c=R.add (R.mul a c) (R.mul b c):=by rw[R.mul_comm,R.dist,R.mul_comm c a,R.mul_comm c b]
theorem pow_add (x:α)(j:Nat):∀k,pwr R x (j+k)=R.mul (pwr R x j) (pwr R x k)
 |0=>(R.mul_one _).symm
 |k+1=>by rw[<-Nat.add_assoc,pwr,pwr,pow_add x j k,R.mul_assoc]
theorem mswap (a b c d:α):R.mul (R.mul a b) (R.mul c d)=R.mul (R.mul a c) (R.mul b d):=by rw[R.mul_assoc,<-R.mul_assoc b,R.mul_comm b c,R.mul_assoc c,<-R.mul_assoc]
theorem aswap (a b c:α):R.add a (R.add b c)=R.add b (R.add a c):=by rw[<-R.add_assoc,R.add_comm a b,R.add_assoc]
theorem mo_mul:∀(i:Nat) (l m:Mo),Mo.val R en i (Mo.mul l m)=R.mul (Mo.val R en i l) (Mo.val R en i m)
 |i,[],m=>by rw[Mo.mul,Mo.val,one_mul]
 |i,e :: l,[]=>by rw[Mo.mul,show Mo.val R en i []=R.int 1 from rfl,R.mul_one]
 |i,e :: l,f :: m=>by rw[Mo.mul,Mo.val,Mo.val,Mo.val,pow_add,mo_mul (i+1) l m,mswap]
theorem cmp_eq:∀l m:Mo,Mo.cmp l m=0->l=m
 |[],[],_=>rfl
 |e :: l,f :: m,h=>by
  unfold Mo.cmp at h
  split at h
  ·next hb=>rw[Nat.eq_of_beq_eq_true hb,cmp_eq l m h]
  ·split at h<;>cases h
theorem isz_eq {z:Int}(h:isz z=true):z=0:=by
 unfold isz at h
 split at h
 ·rfl
 ·cases h
theorem po_app:∀p q:Po,Po.val R en (p++q)=R.add (Po.val R en p) (Po.val R en q)
 |[],q=>by rw[List.nil_append,Po.val,zero_add]
 |(m,c) :: p,q=>by rw[List.cons_append,Po.val,po_app p q,Po.val,R.add_assoc]
theorem po_add:∀(n:Nat) (p q:Po),Po.val R en (Po.add n p q)=R.add (Po.val R en p) (Po.val R en q)
 |0,p,q=>po_app R en p q
 |n+1,[],q=>by rw[Po.add,Po.val,zero_add]
 |n+1,x :: p,[]=>by rw[Po.add,show Po.val R en []=R.int 0 from rfl,R.add_zero]
 |n+1,(m,c) :: p,(k,d) :: q=>by
  unfold Po.add
  split
  ·next h=>
   have hk:=cmp_eq _ _ h
   subst hk
   have e:R.add (Po.val R en ((m,c) :: p)) (Po.val R en ((m,d) :: q))=R.add (R.mul (R.int (c+d)) (Mo.val R en 0 m)) (R.add (Po.val R en p) (Po.val R en q)):=by
    rw[Po.val,Po.val,R.int_add,dist',R.add_assoc,R.add_assoc,aswap R (Po.val R en p)]
   rw[e]
   split
   ·next h0=>rw[isz_eq h0,zero_mul,zero_add,po_add n p q]
   ·rw[Po.val,po_add n p q]
  ·rw[Po.val,po_add n p ((k,d) :: q),<-R.add_assoc]
   rfl
  ·rw[Po.val,po_add n ((m,c) :: p) q,aswap]
   rfl
theorem po_one (m:Mo)(c:Int):∀p:Po,Po.val R en (Po.one m c p)=R.mul (R.mul (R.int c) (Mo.val R en 0 m)) (Po.val R en p)
 |[]=>by rw[Po.one,Po.val,R.mul_zero]
 |(k,d) :: p=>by rw[Po.one,Po.val,po_one m c p,Po.val,R.dist,mo_mul,R.int_mul,mswap]
theorem po_mul:∀p q:Po,Po.val R en (Po.mul p q)=R.mul (Po.val R en p) (Po.val R en q)
 |[],q=>by rw[Po.mul,Po.val,zero_mul]
 |(m,c) :: p,q=>by rw[Po.mul,po_add,po_one,po_mul p q,Po.val,dist']
theorem mo_var:∀(j i:Nat),Mo.val R en j (List.replicate i 0++[1])=en (j+i)
 |j,0=>by
  show R.mul (R.mul (R.int 1) (en j)) (R.int 1)=_
  rw[R.mul_one,one_mul]
  rfl
 |j,i+1=>by
  show R.mul (R.int 1) (Mo.val R en (j+1) (List.replicate i 0++[1]))=_
  rw[one_mul,mo_var (j+1) i]
  congr 1
  omega
theorem norm_val:∀e:Ex,Po.val R en e.norm=e.val R en
 |.v i=>by
  show R.add (R.mul (R.int 1) (Mo.val R en 0 (List.replicate i 0++[1]))) (R.int 0)=en i
  rw[R.add_zero,one_mul,mo_var,Nat.zero_add]
 |.n z=>by
  unfold Ex.norm
  split
  ·next h=>rw[h];rfl
  ·show R.add (R.mul (R.int z) (R.int 1)) (R.int 0)=_
   rw[R.add_zero,R.mul_one]
   rfl
 |.a p q=>by rw[Ex.norm,po_add,norm_val p,norm_val q];rfl
 |.s p q=>by
  rw[Ex.norm,po_add,po_one,norm_val p,norm_val q]
  show R.add _ (R.mul (R.mul (R.int (-1)) (R.int 1)) _)=R.add _ _
  rw[R.mul_one]
 |.m p q=>by rw[Ex.norm,po_mul,norm_val p,norm_val q];rfl
 |.g p=>by
  rw[Ex.norm,po_one,norm_val p]
  show R.mul (R.mul (R.int (-1)) (R.int 1)) _=_
  rw[R.mul_one]
  rfl
theorem same {e f:Ex}(h:e.norm=f.norm):e.val R en=f.val R en:=by rw[<-norm_val,<-norm_val,h]
end
end Ring
namespace Ec
open Go Ring Fp Fp2
structure Fd (α:Type) extends Rg α where
 Z:α->Prop
 z0:Z (int 0)
 za:∀{a b},Z a->Z b->Z (add a b)
 zm:∀{a} (b),Z a->Z (mul a b)
 zd:∀{a b},Z (mul a b)->Z a∨Z b
 inv:α->α
 zi:∀{a},¬Z a->Z (add (mul a (inv a)) (int (-1)))
 ze:∀{n:Int},Z (int n)↔n%PP=0
def RI:Rg Int where
 add:=(· + ·)
 mul:=(· * ·)
 int:=id
 add_comm:=Int.add_comm
 add_assoc:=Int.add_assoc
 mul_comm:=Int.mul_comm
 mul_assoc:=Int.mul_assoc
 dist:=Int.mul_add
 int_add:=fun _ _=>rfl
 int_mul:=fun _ _=>rfl
 add_zero:=Int.add_zero
 mul_one:=Int.mul_one
 mul_zero:=Int.mul_zero
def FI:Fd Int where
 toRg:=RI
 Z:=fun a=>a%PP=0
 z0:=rfl
 za:=fun {a b} h h'=>by
  show (a+b)%PP=0
  rw[Int.add_emod,h,h'];rfl
 zm:=fun {a} b h=>by
  show a*b%PP=0
  rw[Int.mul_emod,h,Int.zero_mul];rfl
 zd:=fun h=>PP_split h
 inv:=fun a=>pw a (PP-2)
 zi:=fun {a} h=>by
  show (a*pw a (PP-2) + -1)%PP=0
  rw[Int.add_emod,pw_inverse h]
  decide +kernel
 ze:=Iff.rfl
def RG:Rg G where
 add:=ga
 mul:=gm
 int:=fun z=>(z,0)
 add_comm:=ga_comm
 add_assoc:=ga_assoc
 mul_comm:=gm_comm
 mul_assoc:=gm_assoc
 dist:=gm_ga
 int_add:=fun a b=>by apply Prod.ext<;>simp[ga]
 int_mul:=fun a b=>by apply Prod.ext<;>simp[gm]
 add_zero:=ga_zero
 mul_one:=gm_one
 mul_zero:=fun a=>by apply Prod.ext<;>simp[gm]
def FG:Fd G where
 toRg:=RG
 Z:=Z2
 z0:=⟨rfl,rfl⟩
 za:=fun {a b} h h'=>⟨by show (a.1+b.1)%PP=0;rw[Int.add_emod,h.1,h'.1];rfl,by show (a.2+b.2)%PP=0;rw[Int.add_emod,h.2,h'.2];rfl⟩
 zm:=fun {a} b h=>gm_zl h
 zd:=fun {a b} h=>by
  by_cases ha:Z2 a
  ·exact .inl ha
  ·exact .inr (gm_zero h ha)
 inv:=gi
 zi:=fun {a} h=>by
  have h1:=gm_gi h
  refine⟨?_,?_⟩
  ·show ((gm a (gi a)).1 + -1)%PP=0
   rw[Int.add_emod,h1.1]
   decide +kernel
  ·show ((gm a (gi a)).2+0)%PP=0
   rw[Int.add_zero,h1.2]
   decide +kernel
 ze:=fun {n}=>⟨fun h=>h.1,fun h=>⟨h,rfl⟩⟩
section
variable {α:Type} (F:Fd α)
def Fd.eq (a b:α):Prop:=F.Z (F.add a (F.mul (F.int (-1)) b))
theorem Fd.eq_of {a b:α}(en:Nat->α){e f:Ex}(he:e.val F.toRg en=a)(hf:f.val F.toRg en=b)(h:e.norm=f.norm):a=b:=by rw[<-he,<-hf];exact same F.toRg en h
theorem Fd.Z_by (en:Nat->α){e f:Ex}(h:e.norm=f.norm)(k:F.Z (f.val F.toRg en)):F.Z (e.val F.toRg en):=by rw[same F.toRg en h];exact k
theorem Fd.refl (a:α):F.eq a a:=by
 have h:F.add a (F.mul (F.int (-1)) a)=F.int 0:=F.eq_of (fun _=>a) (e:=.s (.v 0) (.v 0)) (f:=.n 0) rfl rfl (by decide)
 rw[Fd.eq,h]
 exact F.z0
theorem Fd.zm' {a:α}(b:α)(h:F.Z a):F.Z (F.mul b a):=by rw[F.mul_comm];exact F.zm b h
theorem Fd.symm {a b:α}(h:F.eq a b):F.eq b a:=by
 have e:F.add b (F.mul (F.int (-1)) a)=F.mul (F.int (-1)) (F.add a (F.mul (F.int (-1)) b)):=F.eq_of (fun i=>match i with|0=>a|_=>b) (e:=.s (.v 1) (.v 0)) (f:=.m (.n (-1)) (.s (.v 0) (.v 1))) rfl rfl (by decide)
 rw[Fd.eq,e]
 exact F.zm' _ h
theorem Fd.trans {a b c:α}(h:F.eq a b)(h':F.eq b c):F.eq a c:=by
 have e:F.add a (F.mul (F.int (-1)) c)=F.add (F.add a (F.mul (F.int (-1)) b)) (F.add b (F.mul (F.int (-1)) c)):=F.eq_of (fun i=>match i with|0=>a|1=>b|_=>c) (e:=.s (.v 0) (.v 2)) (f:=.a (.s (.v 0) (.v 1)) (.s (.v 1) (.v 2))) rfl rfl (by decide)
 rw[Fd.eq,e]
 exact F.za h h'
theorem Fd.add_eq {a b c d:α}(h:F.eq a b)(h':F.eq c d):F.eq (F.add a c) (F.add b d):=by
 have e:F.add (F.add a c) (F.mul (F.int (-1)) (F.add b d))=F.add (F.add a (F.mul (F.int (-1)) b)) (F.add c (F.mul (F.int (-1)) d)):=F.eq_of (fun i=>match i with|0=>a|1=>b|2=>c|_=>d) (e:=.s (.a (.v 0) (.v 2)) (.a (.v 1) (.v 3))) (f:=.a (.s (.v 0) (.v 1)) (.s (.v 2) (.v 3))) rfl rfl (by decide)
 rw[Fd.eq,e]
 exact F.za h h'
theorem Fd.mul_eq {a b c d:α}(h:F.eq a b)(h':F.eq c d):F.eq (F.mul a c) (F.mul b d):=by
 have e:F.add (F.mul a c) (F.mul (F.int (-1)) (F.mul b d))=F.add (F.mul (F.add a (F.mul (F.int (-1)) b)) c) (F.mul b (F.add c (F.mul (F.int (-1)) d))):=F.eq_of (fun i=>match i with|0=>a|1=>b|2=>c|_=>d) (e:=.s (.m (.v 0) (.v 2)) (.m (.v 1) (.v 3))) (f:=.a (.m (.s (.v 0) (.v 1)) (.v 2)) (.m (.v 1) (.s (.v 2) (.v 3)))) rfl rfl (by decide)
 rw[Fd.eq,e]
 exact F.za (F.zm _ h) (F.zm' _ h')
theorem Fd.cancel {a b c:α}(hc:¬F.Z c)(h:F.eq (F.mul a c) (F.mul b c)):F.eq a b:=by
 have e:F.add (F.mul a c) (F.mul (F.int (-1)) (F.mul b c))=F.mul (F.add a (F.mul (F.int (-1)) b)) c:=F.eq_of (fun i=>match i with|0=>a|1=>b|_=>c) (e:=.s (.m (.v 0) (.v 2)) (.m (.v 1) (.v 2))) (f:=.m (.s (.v 0) (.v 1)) (.v 2)) rfl rfl (by decide)
 rw[Fd.eq,e] at h
 rcases F.zd h with h1|h1
 ·exact h1
 ·exact absurd h1 hc
end
end Ec
namespace Ec
open Ring
set_option maxRecDepth 100000
def pws:Nat->Nat->Ex->Ex
 |_,0,a=>a
 |i,e+1,a=>pws i e (.m a (.v i))
def tm (d:Nat)(c:Int):Ex:=pws 5 (d%10) (pws 4 (d/10%10) (pws 3 (d/100%10) (pws 2 (d/1000%10) (pws 1 (d/10000%10) (pws 0 (d/100000%10) (.n c))))))
def ofP:List (Nat×Int)->Ex
 |[]=>.n 0
 |(d,c) :: r=>.a (tm d c) (ofP r)
def C1:Ex:=(.s (.a (.m (.m (.n 2) (.v 4)) (.v 3)) (.m (.m (.v 4) (.v 4)) (.s (.v 0) (.v 2)))) (.a (.a (.m (.v 0) (.v 0)) (.m (.v 0) (.v 2))) (.m (.v 2) (.v 2))))
def C2:Ex:=(.s (.a (.m (.m (.n 2) (.v 5)) (.v 3)) (.m (.m (.v 5) (.v 5)) (.s (.v 1) (.v 2)))) (.a (.a (.m (.v 1) (.v 1)) (.m (.v 1) (.v 2))) (.m (.v 2) (.v 2))))
def Y1:Ex:=(.a (.v 3) (.m (.v 4) (.s (.v 0) (.v 2))))
def Y3:Ex:=(.a (.v 3) (.m (.v 5) (.s (.v 1) (.v 2))))
def X4:Ex:=(.s (.s (.m (.v 4) (.v 4)) (.v 0)) (.v 2))
def Y4:Ex:=(.g (.a (.v 3) (.m (.v 4) (.s X4 (.v 2)))))
def X5:Ex:=(.s (.s (.m (.v 5) (.v 5)) (.v 2)) (.v 1))
def Y5:Ex:=(.g (.a (.v 3) (.m (.v 5) (.s X5 (.v 2)))))
def Nc:Ex:=(.s Y3 Y4)
def Dc:Ex:=(.s (.v 1) X4)
def Nt:Ex:=(.a (.a (.m (.v 1) (.v 1)) (.m (.v 1) X4)) (.m X4 X4))
def Dt:Ex:=(.a Y3 Y4)
def Mc:Ex:=(.s Y5 Y1)
def Fc:Ex:=(.s X5 (.v 0))
def Mt:Ex:=(.a (.a (.m X5 X5) (.m X5 (.v 0))) (.m (.v 0) (.v 0)))
def Ft:Ex:=(.a Y5 Y1)
end Ec
namespace Ec
open Ring
set_option maxRecDepth 100000
def Pxcc:Ex:=(ofP [(33,-2),(103,4),(112,-2),(130,-2),(1004,-2),(1013,4),(1022,-1),(1031,4),(1040,1),(1101,-4),(1110,4),(2002,1),(2011,-6),(2020,-1),(3000,2),(10004,2),(10022,-2),(10031,2),(10101,-8),(10110,4),(11002,2),(11011,-6),(11020,2),(12000,4),(20002,-6),(20020,2),(21000,4),(30000,4),(100013,2),(100022,-3),(100040,-1),(100110,4),(101002,5),(101011,-6),(101020,3),(102000,-4),(110002,4),(110020,6),(111000,-10),(120000,-4),(200002,3),(200020,3),(201000,-6),(210000,-6),(300000,-2)])
def Qxcc:Ex:=(ofP [(33,2),(103,2),(112,-4),(121,2),(1004,-1),(1013,-4),(1022,3),(1031,-4),(1101,-4),(1110,4),(2002,3),(2011,6),(2020,-3),(3000,-2),(10004,1),(10022,3),(10031,-2),(10101,-4),(10110,8),(11002,-3),(11011,6),(11020,-9),(20002,-3),(20020,-3),(21000,6),(30000,2),(100013,-2),(100101,-4),(101011,6),(110002,-6),(111000,6),(120000,6)])
def Wxcc:Ex:=(.s (.s (.m (.m (.m Nc Nc) Fc) Fc) (.m (.m (.m Mc Mc) Dc) Dc)) (.m (.m (.m (.m (.s (.s (.a X4 (.v 1)) (.v 0)) X5) Dc) Dc) Fc) Fc))
theorem id_xcc:Wxcc.norm=(Ex.a (.m Pxcc C1) (.m Qxcc C2)).norm:=by decide +kernel
end Ec
namespace Ec
open Ring
set_option maxRecDepth 100000
def Pxct:Ex:=(ofP [(35,-2),(114,6),(132,-2),(1024,-1),(1033,8),(1042,-1),(1112,-12),(1121,4),(2004,1),(2013,-8),(2022,1),(2031,-6),(2040,2),(2110,2),(3011,16),(3020,-5),(4000,-3),(10015,4),(10024,-2),(10033,2),(10112,-4),(10121,-4),(11004,2),(11013,-16),(11022,8),(11031,-6),(12002,-2),(12011,24),(13000,-6),(20013,-8),(21011,16),(22000,-6),(30011,4),(30020,2),(31000,-2),(100015,2),(100024,-3),(100033,-4),(100042,1),(100112,4),(101004,5),(101013,-4),(101022,5),(101031,6),(101040,-4),(101110,-4),(102002,-10),(102020,3),(103000,3),(110004,4),(110013,2),(110022,4),(110031,6),(111002,-14),(111011,-8),(112000,6),(120002,-6),(120011,-4),(121000,6),(130000,2),(200004,3),(200013,4),(200022,-3),(200040,2),(200110,2),(201002,-4),(201011,-8),(201020,3),(210002,-2),(210011,-4),(300002,2),(300020,-3),(301000,-1),(400000,1)])
def Qxct:Ex:=(ofP [(35,2),(44,2),(105,2),(123,-6),(141,2),(1006,-1),(1015,-4),(1024,-3),(1033,-4),(1042,-3),(1103,-8),(1112,4),(1121,12),(1130,-4),(2004,5),(2013,16),(2022,3),(2031,-2),(2040,1),(2101,8),(2110,-8),(3002,-8),(3011,-16),(3020,6),(4000,4),(10006,1),(10024,-1),(10033,-2),(10042,-3),(10103,-4),(10121,4),(10130,4),(11004,-1),(11013,8),(11022,9),(11031,2),(11040,1),(11101,8),(11110,-4),(12002,-6),(12011,-16),(12020,-8),(13000,8),(20004,-1),(20022,3),(20040,1),(20101,2),(21002,-3),(21011,-4),(21020,-8),(22000,9),(30002,-1),(30020,-2),(31000,5),(40000,1),(100015,-2),(100024,-2),(100112,-4),(100121,-4),(101013,8),(101022,6),(101031,2),(101110,8),(102011,-8),(102020,-4),(110013,-2),(110031,-2),(110110,4),(111011,4),(111020,-4),(120011,4),(120020,2)])
def Wxct:Ex:=(.s (.s (.m (.m (.m Nc Nc) Ft) Ft) (.m (.m (.m Mt Mt) Dc) Dc)) (.m (.m (.m (.m (.s (.s (.a X4 (.v 1)) (.v 0)) X5) Dc) Dc) Ft) Ft))
theorem id_xct:Wxct.norm=(Ex.a (.m Pxct C1) (.m Qxct C2)).norm:=by decide +kernel
end Ec
namespace Ec
open Ring
set_option maxRecDepth 100000
def Pxtc:Ex:=(ofP [(44,-2),(53,-2),(114,-2),(123,4),(132,-2),(150,-2),(1024,1),(1033,8),(1042,3),(1051,4),(1060,1),(1112,12),(1121,-8),(1130,8),(2004,1),(2013,-10),(2022,-3),(2031,-12),(2040,-5),(2110,-8),(3011,4),(3020,10),(10024,2),(10033,-4),(10042,2),(10051,2),(10112,-4),(10121,-4),(11004,-2),(11013,14),(11022,-6),(11031,-4),(12002,-2),(12020,6),(20013,-4),(20022,-6),(20031,4),(21002,6),(21011,-8),(21020,6),(30011,4),(30020,4),(31000,-4),(100024,3),(100033,2),(100042,1),(100060,-1),(100112,4),(100130,4),(101004,-3),(101013,-6),(101022,-9),(101031,-8),(101040,1),(101110,-8),(102002,8),(102011,12),(102020,6),(103000,-6),(110004,2),(110013,6),(110031,2),(111002,-2),(111011,-8),(120011,-4),(130000,-2),(200004,-1),(200022,-3),(200040,1),(200110,-2),(201002,8),(201011,4),(201020,3),(202000,-9),(210002,-2),(210011,-4),(300002,2),(300020,1),(301000,-5),(400000,-1)])
def Qxtc:Ex:=(ofP [(53,2),(123,2),(132,-4),(141,2),(1024,1),(1033,-8),(1042,3),(1051,-4),(1121,-12),(1130,4),(2004,-2),(2013,6),(2022,-1),(2031,16),(2040,-3),(2101,-2),(2110,8),(3002,3),(3011,-4),(3020,-6),(4000,-1),(10024,-1),(10033,4),(10042,3),(10051,-2),(10121,4),(10130,8),(11004,4),(11013,-6),(11022,-5),(11040,-9),(11101,4),(11110,-8),(12002,-3),(12011,-4),(12020,10),(13000,1),(20004,-2),(20022,3),(20031,-4),(20040,-3),(20101,-2),(21002,-3),(21011,8),(21020,4),(30002,3),(30020,-2),(31000,1),(40000,-1),(100033,-2),(100121,-4),(101013,6),(101022,-2),(101031,4),(101110,4),(102011,-8),(102020,2),(110013,-6),(110022,-4),(110031,2),(110110,-4),(111011,4),(111020,8),(120011,4),(120020,2)])
def Wxtc:Ex:=(.s (.s (.m (.m (.m Nt Nt) Fc) Fc) (.m (.m (.m Mc Mc) Dt) Dt)) (.m (.m (.m (.m (.s (.s (.a X4 (.v 1)) (.v 0)) X5) Dt) Dt) Fc) Fc))
theorem id_xtc:Wxtc.norm=(Ex.a (.m Pxtc C1) (.m Qxtc C2)).norm:=by decide +kernel
end Ec
namespace Ec
open Ring
set_option maxRecDepth 100000
def Pxtt:Ex:=(ofP [(46,-2),(55,-2),(116,-2),(134,6),(152,-2),(1026,3),(1035,4),(1044,7),(1053,4),(1062,-1),(1114,8),(1123,-4),(1132,-4),(1141,4),(2006,1),(2015,-6),(2024,-11),(2033,-14),(2042,-5),(2051,2),(2112,-6),(3013,10),(3022,13),(3031,2),(3040,-2),(4002,-3),(10044,2),(10053,2),(10114,4),(10132,-12),(10141,-4),(11006,-2),(11015,6),(11024,-2),(11033,-6),(11042,-2),(11051,-2),(11112,-12),(11121,12),(12004,-2),(12022,2),(12031,22),(13002,6),(13011,-6),(13020,-6),(20024,-2),(20033,-6),(20042,-2),(21004,8),(21013,-12),(21022,8),(21031,12),(22002,-6),(22011,6),(22020,-6),(30022,2),(30031,6),(30040,2),(31002,-6),(31011,6),(31020,-6),(100026,3),(100035,2),(100044,-3),(100062,1),(100123,4),(100132,4),(101006,-3),(101015,-6),(101024,-9),(101033,-2),(101042,3),(101051,-2),(101121,-12),(102004,14),(102013,6),(102022,7),(102031,-4),(103002,-15),(103011,6),(103020,6),(110006,2),(110015,6),(110042,6),(110051,2),(111004,-6),(111022,-8),(111031,-8),(112020,6),(120004,-2),(120013,-6),(120022,-2),(121002,6),(121011,-6),(121020,6),(200006,-1),(200024,3),(200033,-2),(200042,-3),(201004,4),(201031,8),(202002,-3),(202011,-6),(210004,2),(210022,-6),(210031,-2),(211002,-6),(211011,6),(300013,2),(300022,2),(301011,-6)])
def Qxtt:Ex:=(ofP [(55,2),(64,2),(125,2),(143,-6),(161,2),(1026,1),(1035,-4),(1044,-7),(1053,-4),(1062,-3),(1123,-8),(1132,4),(1141,4),(1150,-4),(2015,-2),(2024,3),(2033,20),(2042,11),(2060,1),(2121,6),(3013,4),(3022,-13),(3031,-16),(3040,2),(4020,3),(10026,-1),(10044,3),(10053,-2),(10062,-3),(10123,-4),(10141,12),(10150,4),(11015,2),(11024,-3),(11033,2),(11042,7),(11060,1),(11121,12),(11130,-12),(12013,4),(12022,-3),(12031,-18),(12040,-10),(13011,-12),(13020,21),(20024,3),(20033,2),(20042,-3),(20060,1),(21013,-8),(21040,-4),(22011,6),(22020,3),(30022,-2),(30031,-2),(31011,6),(100035,-2),(100044,-2),(100132,-4),(100141,-4),(101015,2),(101024,6),(101033,6),(101042,4),(101130,12),(102013,-10),(102022,-6),(102040,-2),(103011,12),(103020,-12),(110015,-2),(110024,-6),(110042,2),(111013,8),(111040,-2),(112011,-6),(112020,6),(120013,2),(120022,6),(120040,-2),(121011,-6),(121020,6)])
def Wxtt:Ex:=(.s (.s (.m (.m (.m Nt Nt) Ft) Ft) (.m (.m (.m Mt Mt) Dt) Dt)) (.m (.m (.m (.m (.s (.s (.a X4 (.v 1)) (.v 0)) X5) Dt) Dt) Ft) Ft))
theorem id_xtt:Wxtt.norm=(Ex.a (.m Pxtt C1) (.m Qxtt C2)).norm:=by decide +kernel
end Ec
namespace Ec
open Ring
set_option maxRecDepth 100000
def Zcc:Ex:=(.s (.m Nc Nc) (.m (.m (.a X4 (.v 1)) Dc) Dc))
def Pycc:Ex:=(ofP [(52,-2),(113,-4),(122,-2),(140,4),(210,4),(1014,2),(1023,1),(1032,5),(1041,-3),(1050,1),(1102,4),(1120,-6),(2003,-2),(2012,-2),(2021,4),(2030,-2),(3010,-2),(10014,-2),(10023,-1),(10032,3),(10041,3),(10050,3),(10111,12),(10120,2),(11003,2),(11012,-6),(11021,-6),(11030,-8),(11100,-2),(12001,2),(12010,-2),(20012,6),(20021,2),(21001,-2),(21010,-6),(30010,-4),(100032,4),(100050,2),(100102,2),(100120,-2),(101003,-1),(101012,-5),(101021,1),(101030,-9),(101100,-4),(102001,4),(102010,8),(110003,1),(110012,-3),(110021,-1),(110030,-7),(110100,-4),(111010,10),(120001,-4),(200012,-2),(200030,-4),(200100,-2),(201001,2),(201010,8),(210001,-2),(210010,4),(300010,2)])
def Qycc:Ex:=(ofP [(52,2),(122,6),(131,-4),(201,-4),(1023,-1),(1032,-5),(1041,3),(1050,-3),(1102,2),(1111,8),(1120,-8),(2012,-4),(2021,-2),(2030,8),(3010,2),(10023,1),(10032,-5),(10041,-3),(10050,-3),(10102,-6),(10120,-10),(11003,2),(11012,10),(11021,4),(11030,14),(11100,4),(12001,-4),(12010,-4),(20003,-2),(20021,-2),(20030,2),(20100,2),(21001,2),(21010,-4),(30001,2),(100032,-2),(100102,-2),(100111,4),(101003,1),(101012,1),(101021,-3),(101030,3),(101100,2),(102001,-2),(102010,-2),(110003,-1),(110012,5),(110021,3),(110030,3),(110100,4),(111001,-2),(111010,-8),(120001,4),(120010,-2)])
def Wycc:Ex:=(.s (.s (.m (.m Nc (.s (.m (.m (.v 1) Dc) Dc) Zcc)) Fc) (.m (.m (.m (.m Y3 Dc) Dc) Dc) Fc)) (.s (.m (.m Mc (.s (.m (.m (.v 0) Dc) Dc) Zcc)) Dc) (.m (.m (.m (.m Y1 Dc) Dc) Dc) Fc)))
theorem id_ycc:Wycc.norm=(Ex.a (.m Pycc C1) (.m Qycc C2)).norm:=by decide +kernel
end Ec
namespace Ec
open Ring
set_option maxRecDepth 100000
def Zct:Ex:=(.s (.m Nc Nc) (.m (.m (.a X4 (.v 1)) Dc) Dc))
def Pyct:Ex:=(ofP [(53,2),(114,4),(123,2),(132,-4),(202,-4),(1015,-2),(1024,-1),(1033,-3),(1042,1),(1051,-3),(1060,2),(1112,-2),(1130,6),(1200,4),(2004,1),(2013,2),(2022,-1),(2031,6),(2040,-8),(2101,4),(2110,-12),(3002,-3),(3011,4),(3020,6),(4000,-1),(10015,2),(10024,1),(10033,-5),(10042,-1),(10051,-3),(10103,-4),(10112,-2),(10121,-6),(11013,2),(11022,5),(11031,16),(11040,-4),(11101,8),(11110,-4),(12002,-1),(12011,-10),(12020,6),(20004,-1),(20013,-2),(20022,-4),(20031,2),(20040,-2),(20110,-2),(21002,4),(21020,6),(22000,-1),(30020,2),(31000,1),(40000,1),(100033,-4),(100060,-2),(100103,-2),(100112,4),(100130,-6),(100200,-4),(101004,1),(101013,3),(101031,11),(101040,2),(101101,8),(101110,4),(102002,-5),(102011,-14),(102020,3),(103000,1),(110004,-1),(110013,5),(110031,1),(110040,2),(110101,-2),(110110,2),(111002,3),(111011,-10),(111020,3),(112000,-1),(120002,2),(121000,-1),(130000,1),(200013,2),(200040,4),(200110,6),(201002,-1),(201011,-8),(201020,-3),(202000,-1),(210002,1),(210011,2),(210020,-3),(211000,-1),(220000,2),(300020,-2),(301000,-1),(310000,1)])
def Qyct:Ex:=(ofP [(53,-2),(123,-6),(132,4),(141,4),(202,4),(211,4),(1024,1),(1033,5),(1042,-3),(1051,1),(1060,-1),(1103,-2),(1112,-10),(1121,4),(1130,-12),(1200,-8),(2013,4),(2022,3),(2031,-6),(2040,8),(2101,4),(2110,16),(3011,-8),(3020,-4),(10024,-1),(10033,5),(10042,3),(10051,5),(10060,1),(10103,6),(10112,2),(10121,6),(10200,-4),(11004,-2),(11013,-10),(11022,-6),(11031,-20),(11040,-2),(11101,-10),(11110,12),(12002,6),(12011,16),(12020,-3),(13000,-4),(20004,2),(20022,3),(20031,-4),(20101,-6),(20110,2),(21002,-3),(21011,10),(21020,-3),(30002,-3),(30020,-2),(31000,3),(40000,1),(100033,2),(100103,2),(100112,-4),(100121,-4),(101004,-1),(101013,-1),(101022,3),(101031,-1),(101040,1),(101101,-4),(101110,10),(102002,3),(102011,2),(102020,-6),(103000,-2),(110004,1),(110013,-5),(110022,-3),(110031,-5),(110040,-1),(110101,-2),(110110,2),(111011,14),(112000,-3),(120002,-3),(120011,2),(121000,3),(130000,2)])
def Wyct:Ex:=(.s (.s (.m (.m Nc (.s (.m (.m (.v 1) Dc) Dc) Zct)) Ft) (.m (.m (.m (.m Y3 Dc) Dc) Dc) Ft)) (.s (.m (.m Mt (.s (.m (.m (.v 0) Dc) Dc) Zct)) Dc) (.m (.m (.m (.m Y1 Dc) Dc) Dc) Ft)))
theorem id_yct:Wyct.norm=(Ex.a (.m Pyct C1) (.m Qyct C2)).norm:=by decide +kernel
end Ec
end Go.Proofs.YtjamcbjghffboaaGreatDoor
