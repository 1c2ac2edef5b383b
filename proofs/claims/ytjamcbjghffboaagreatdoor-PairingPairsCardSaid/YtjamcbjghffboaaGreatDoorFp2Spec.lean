/-
  Own text.
-/
import Derived.Test.YtjamcbjghffboaaGreatDoorMFpR
import Derived.Test.YtjamcbjghffboaaGreatDoorMFpN
import Derived.Test.YtjamcbjghffboaaGreatDoorMRegT
set_option linter.unusedVariables false
namespace Go.Proofs.YtjamcbjghffboaaGreatDoor
namespace Fp2
open Go Go.RowKit Reg Base Limb Fp
structure Nm (n:Nat) (l:List Int):Prop where
 len:l.length=n
 words:Words l
theorem Nm.fe (v:Int):Nm 6 (fe v):=⟨fe_len _,fe_words _⟩
theorem Nm.seg {n m off:Nat}{l:List Int}(h:Nm m l)(ho:off+n<=m):Nm n (seg off n l):=⟨seg_len h.len ho,words_take (words_drop h.words _) _⟩
theorem Nm.app {n m:Nat}{l k:List Int}(h:Nm n l)(h':Nm m k):Nm (n+m) (l++k):=⟨by rw[List.length_append,h.len,h'.len],words_append h.words h'.words⟩
abbrev G:=Int×Int
def ga (p q:G):G:=(p.1+q.1,p.2+q.2)
def gs (p q:G):G:=(p.1-q.1,p.2-q.2)
def gn (p:G):G:=(-p.1,-p.2)
def gc (p:G):G:=(p.1,-p.2)
def gm (p q:G):G:=(p.1*q.1-p.2*q.2,p.1*q.2+p.2*q.1)
def gk (p:G)(k:Int):G:=(p.1*k,p.2*k)
def gnorm (p:G):Int:=p.1*p.1+p.2*p.2
def gi (p:G):G:=gk (gc p) (pw (gnorm p) (PP-2))
def gp (p:G):Nat->G
 |0=>(1,0)
 |n+1=>gm (gp p n) p
def F2 (p:G):List Int:=Fp.fe p.1++Fp.fe p.2
def v2 (l:List Int):G:=(num (seg 0 6 l),num (seg 6 6 l))
theorem Nm.F2 (p:G):Nm 12 (F2 p):=Nm.app (.fe _) (.fe _)
theorem seg_F2a (p:G):seg 0 6 (F2 p)=Fp.fe p.1:=List.take_left' (fe_len _)
theorem seg_F2b (p:G):seg 6 6 (F2 p)=Fp.fe p.2:=by
 rw[seg,Fp2.F2,List.drop_left' (fe_len _),List.take_of_length_le (by rw[fe_len];omega)]
def E2 (p q:G):Prop:=p.1%PP=q.1%PP/\p.2%PP=q.2%PP
theorem E2.rfl {p:G}:E2 p p:=⟨_root_.rfl,_root_.rfl⟩
theorem E2.symm {p q:G}(h:E2 p q):E2 q p:=⟨h.1.symm,h.2.symm⟩
theorem E2.trans {p q r:G}(h:E2 p q)(h':E2 q r):E2 p r:=⟨h.1.trans h'.1,h.2.trans h'.2⟩
theorem F2_eq {p q:G}(h:E2 p q):F2 p=F2 q:=by rw[F2,F2,fe_congr h.1,fe_congr h.2]
theorem F2_inj {p q:G}(h:F2 p=F2 q):E2 p q:=by
 have h1:seg 0 6 (F2 p)=seg 0 6 (F2 q):=by rw[h]
 have h2:seg 6 6 (F2 p)=seg 6 6 (F2 q):=by rw[h]
 rw[seg_F2a,seg_F2a] at h1
 rw[seg_F2b,seg_F2b] at h2
 exact⟨fe_inj h1,fe_inj h2⟩
theorem v2_F2 (p:G):E2 (v2 (F2 p)) p:=by
 rw[v2,seg_F2a,seg_F2b]
 exact⟨by show num (Fp.fe p.1)%PP=_;rw[num_fe,Int.emod_emod],by show num (Fp.fe p.2)%PP=_;rw[num_fe,Int.emod_emod]⟩
section
variable {p p' q q':G} {k k':Int}
theorem ga_congr (h:E2 p p')(h':E2 q q'):E2 (ga p q) (ga p' q'):=⟨by rw[ga,ga,Int.add_emod,h.1,h'.1,<-Int.add_emod],by rw[ga,ga,Int.add_emod,h.2,h'.2,<-Int.add_emod]⟩
theorem gs_congr (h:E2 p p')(h':E2 q q'):E2 (gs p q) (gs p' q'):=⟨by rw[gs,gs,Int.sub_emod,h.1,h'.1,<-Int.sub_emod],by rw[gs,gs,Int.sub_emod,h.2,h'.2,<-Int.sub_emod]⟩
theorem neg_congr {x y:Int}(h:x%PP=y%PP):(-x)%PP=(-y)%PP:=by
 have:=Int.sub_emod 0 x PP
 have h2:=Int.sub_emod 0 y PP
 rw[h,<-h2,Int.zero_sub,Int.zero_sub] at this
 exact this
theorem gn_congr (h:E2 p p'):E2 (gn p) (gn p'):=⟨neg_congr h.1,neg_congr h.2⟩
theorem gc_congr (h:E2 p p'):E2 (gc p) (gc p'):=⟨h.1,neg_congr h.2⟩
theorem mulm {a b c d:Int}(h:a%PP=b%PP)(h':c%PP=d%PP):a*c%PP=b*d%PP:=by rw[Int.mul_emod,h,h',<-Int.mul_emod]
theorem gm_congr (h:E2 p p')(h':E2 q q'):E2 (gm p q) (gm p' q'):=
 ⟨by rw[gm,gm,Int.sub_emod,mulm h.1 h'.1,mulm h.2 h'.2,<-Int.sub_emod],by rw[gm,gm,Int.add_emod,mulm h.1 h'.2,mulm h.2 h'.1,<-Int.add_emod]⟩
theorem gk_congr (h:E2 p p')(h':k%PP=k'%PP):E2 (gk p k) (gk p' k'):=⟨mulm h.1 h',mulm h.2 h'⟩
theorem gnorm_congr (h:E2 p p'):gnorm p%PP=gnorm p'%PP:=by rw[gnorm,gnorm,Int.add_emod,mulm h.1 h.1,mulm h.2 h.2,<-Int.add_emod]
theorem gi_congr (h:E2 p p'):E2 (gi p) (gi p'):=gk_congr (gc_congr h) (pw_congr (gnorm_congr h) _)
theorem gp_congr (h:E2 p p'):∀n,E2 (gp p n) (gp p' n)
 |0=>E2.rfl
 |n+1=>gm_congr (gp_congr h n) h
end
section
variable (p q r:G)
theorem ga_comm:ga p q=ga q p:=by simp[ga,Int.add_comm]
theorem ga_assoc:ga (ga p q) r=ga p (ga q r):=by simp[ga,Int.add_assoc]
theorem gm_comm:gm p q=gm q p:=by
 apply Prod.ext<;>simp only[gm]<;>grind
theorem gm_assoc:gm (gm p q) r=gm p (gm q r):=by
 apply Prod.ext<;>simp only[gm]<;>grind
theorem gm_ga:gm p (ga q r)=ga (gm p q) (gm p r):=by
 apply Prod.ext<;>simp only[gm,ga]<;>grind
theorem gm_one:gm p (1,0)=p:=by
 apply Prod.ext<;>simp only[gm]<;>grind
theorem gs_eq:gs p q=ga p (gn q):=by
 apply Prod.ext<;>simp only[ga,gn,gs]<;>grind
theorem ga_zero:ga p (0,0)=p:=by
 apply Prod.ext<;>simp only[ga]<;>grind
theorem ga_gn:ga p (gn p)=(0,0):=by
 apply Prod.ext<;>simp only[ga,gn]<;>grind
theorem gp_add (m:Nat):∀n,gp p (m+n)=gm (gp p m) (gp p n)
 |0=>(gm_one _).symm
 |n+1=>by
  rw[<-Nat.add_assoc,gp,gp,gp_add m n,gm_assoc]
end
def Z12:List Int:=List.replicate 12 0
section
variable {x y:List Int}
theorem rRed (h:Nm 6 x)(w:World):Calls Tryz.prog 83 #[.agg (vals .u64 x)] w fun e w'=>e=.returned (.agg (vals .u64 (fe (num x))))/\Below w.heap.size w w':=refReduce_c x h.len h.words w
theorem rAdd (h:Nm 6 x)(h':Nm 6 y)(w:World):Calls Tryz.prog 82 #[.agg (vals .u64 x),.agg (vals .u64 y)] w fun e w'=>e=.returned (.agg (vals .u64 (fe (num x+num y))))/\Below w.heap.size w w':=refFpAdd_c x y h.len h.words h'.len h'.words w
theorem rSub (h:Nm 6 x)(h':Nm 6 y)(w:World):Calls Tryz.prog 80 #[.agg (vals .u64 x),.agg (vals .u64 y)] w fun e w'=>e=.returned (.agg (vals .u64 (fe (num x-num y))))/\Below w.heap.size w w':=refFpSub_c x y h.len h.words h'.len h'.words w
theorem rMul (h:Nm 6 x)(h':Nm 6 y)(w:World):Calls Tryz.prog 81 #[.agg (vals .u64 x),.agg (vals .u64 y)] w fun e w'=>e=.returned (.agg (vals .u64 (fe (num x*num y))))/\Below w.heap.size w w':=refFpMul_c x y h.len h.words h'.len h'.words w
theorem rNeg (h:Nm 6 x)(w:World):Calls Tryz.prog 84 #[.agg (vals .u64 x)] w fun e w'=>e=.returned (.agg (vals .u64 (fe (-num x))))/\Below w.heap.size w w':=refNeg_c x h.len h.words w
theorem rInv (h:Nm 6 x)(w:World):Calls Tryz.prog 89 #[.agg (vals .u64 x)] w fun e w'=>e=.returned (.agg (vals .u64 (fe (pw (num x) (PP-2)))))/\Below w.heap.size w w':=refFpInv_c x h.len h.words w
end
end Fp2
end Go.Proofs.YtjamcbjghffboaaGreatDoor
