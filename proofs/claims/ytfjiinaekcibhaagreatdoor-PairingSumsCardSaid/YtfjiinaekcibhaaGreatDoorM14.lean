/-
  Own text.
-/
import Derived.Test.YtfjiinaekcibhaaGreatDoorMOrd
import Derived.Test.YtfjiinaekcibhaaGreatDoorMEc
import Derived.Test.YtfjiinaekcibhaaGreatDoorMPt
import Derived.Test.YtfjiinaekcibhaaGreatDoorMCu
import Derived.Test.YtfjiinaekcibhaaGreatDoorS7
set_option linter.unusedVariables false
set_option linter.unusedSectionVars false
set_option linter.unusedSimpArgs false
namespace Go.Proofs.YtfjiinaekcibhaaGreatDoor
namespace SubM
set_option maxRecDepth 100000
open Go Ring Base Limb Fp Fp2 Ec Pts
section
variable {α:Type} (F:Go.Proofs.YtfjiinaekcibhaaGreatDoor.Ec.Fd α) {b:α} {f:Pt α→Pt α} {A B C D:Pt α} {r k m n:Nat}
structure Im (b:α) (f:Pt α→Pt α):Prop where
 eq:∀{A B},EqP F A B→EqP F (f A) (f B)
 sum:∀{A B C},Sum F A B C→Sum F (f A) (f B) (f C)
 on:∀{A},OnP F b (f A)↔OnP F b A
 none:f none=none
theorem Im.of {e:α→α}(hm:Hm F F e){s:α}(hs:¬F.Z s)(hb:F.eq (F.mul (e b) (F.mul (F.mul (F.mul s s) s) (F.mul (F.mul s s) s))) b)(hf:∀A,EqP F (utP e F s A) (f A))(hn:f .none=.none):Im F b f where
 eq:=fun h=>eqP_trans F (eqP_symm F (hf _)) (eqP_trans F (ut_eq F hm s h) (hf _))
 sum:=fun h=>sum_eq F (hf _) (hf _) (hf _) (ut_sum F hm s hs h)
 on:=⟨fun h=>ut_of F hm s hs hb (onP_eq F (eqP_symm F (hf _)) h),fun h=>onP_eq F (hf _) (ut_on F hm s hb h)⟩
 none:=hn
variable [DecidablePred F.Z]
theorem tor_iff (a:OnP F b A):Mult F r A none↔ptB (mulP F r A)=true:=by
 have h1:=(mulP_mult F a r).1
 constructor
 ·intro h
  have:=mult_un F h h1
  rcases hm:mulP F r A with _|x
  ·rfl
  ·rw[hm] at this
   exact this.elim
 ·intro h
  rcases hm:mulP F r A with _|x
  ·rwa [hm] at h1
  ·rw[hm] at h
   cases h
theorem tor_sum (hb:¬F.Z b)(a:OnP F b A)(e:OnP F b B)(hA:Mult F r A none)(hB:Mult F r B none)(h:Sum F A B C):Mult F r C none:=by
 obtain⟨R,hR,_⟩:=mult_ex F r (sum_on F a e h)
 exact mult_eq F (eqP_refl F _) (sum_un F (mult_sum F hb a e h hA hB hR) (.zl trivial)) hR
theorem tor_mult (hb:¬F.Z b)(a:OnP F b A)(hA:Mult F r A none)(hC:Mult F k A C):Mult F r C none:=by
 obtain⟨R,hR,_⟩:=mult_ex F r (mult_on F a hC)
 have h1:=mult_mult F hb a hC hR
 have h2:=mult_mult F hb a hA (mult_none F k)
 rw[Nat.mul_comm] at h2
 exact mult_eq F (eqP_refl F _) (mult_un F h1 h2) hR
end
def rN:Nat:=52435875175126190479447740508185965837690552500527637822603658699938581184513
def xN:Nat:=15132376222941642752
instance decI:DecidablePred FI.Z:=fun a=>inferInstanceAs (Decidable (a%PP=0))
instance decG:DecidablePred FG.Z:=fun a=>inferInstanceAs (Decidable (a.1%PP=0∧a.2%PP=0))
def red1 (a:Int):Int:=a%PP
theorem hred1 (a:Int):FI.eq a (red1 a):=by
 show (a + -1*(a%PP))%PP=0
 have:=Int.emod_add_mul_ediv a PP
 rw[show a + -1*(a%PP)=PP*(a/PP) by omega]
 exact Int.mul_emod_right _ _
def red2 (a:G):G:=(a.1%PP,a.2%PP)
theorem hred2 (a:G):FG.eq a (red2 a):=by
 have h1:=hred1 a.1
 have h2:=hred1 a.2
 have e:FG.add a (FG.mul (FG.int (-1)) (red2 a))=(a.1 + -1*(a.1%PP),a.2 + -1*(a.2%PP)):=by
  show ga a (gm (-1,0) (red2 a))=_
  apply Prod.ext<;>simp[ga,gm,red2]
 show FG.Z _
 rw[e]
 exact⟨h1,h2⟩
theorem hm_id:Hm FI FI (fun a=>a):=⟨fun _ _=>rfl,fun _ _=>rfl,fun _=>rfl,fun _=>Iff.rfl⟩
theorem hm_gc:Hm FG FG gc where
 add:=fun a b=>by
  show gc (ga a b)=ga (gc a) (gc b)
  apply Prod.ext<;>simp[ga,gc,Int.neg_add]
 mul:=fun a b=>by
  show gc (gm a b)=gm (gc a) (gc b)
  apply Prod.ext<;>simp[gm,gc,Int.neg_add,Int.mul_neg,Int.neg_mul]
 int:=fun n=>rfl
 z:=fun a=>by
  show (a.1%PP=0∧a.2%PP=0)↔(a.1%PP=0∧(-a.2)%PP=0)
  exact⟨fun h=>⟨h.1,Int.emod_eq_zero_of_dvd (Int.dvd_neg.2 (Int.dvd_of_emod_eq_zero h.2))⟩,fun h=>⟨h.1,Int.emod_eq_zero_of_dvd (Int.dvd_neg.1 (Int.dvd_of_emod_eq_zero h.2))⟩⟩
def BW:List Int:=[3315212275698040830,16003497378645147650,15975298377956497032,13432485098755684330,6852621763331149393,0]
def XW:List Int:=[0,0,0,0,0,0,10087218740379822765,4653388206581612541,9907120269317136283,12253596935368579796,17006226088849104517,1873798617647539865]
def YW:List Int:=[17433006465011670690,3478017852528130570,17237919592439788638,2035044123721977696,16350815739277094105,1392179521213474446,14416168624775744521,17178867732698629620,8644499054833844677,5204293836692734814,7508032112903159806,481619096434065419]
def s1:Int:=4002409555221667392624310435006688643935503118305586438271171395842971157480381377015405980053539358417135540939436
def s2:G:=(877076961050607968509681729531255177986764537961432449499635504522207616027455086505066378536590128544573588734230,877076961050607968509681729531255177986764537961432449499635504522207616027455086505066378536590128544573588734230)
def phA:Pt Int→Pt Int
 |none=>none
 |some (x,y)=>some (FI.mul x (num BW),y)
def psA:Pt G→Pt G
 |none=>none
 |some (x,y)=>some (FG.mul (gc x) (v2 XW),FG.mul (gc y) (v2 YW))
theorem ph_s:FI.eq (FI.mul s1 s1) (num BW)∧FI.eq (FI.mul (FI.mul s1 s1) s1) (FI.int 1):=by
 show FI.Z _∧FI.Z _
 decide +kernel
theorem ps_s:FG.eq (FG.mul s2 s2) (v2 XW)∧FG.eq (FG.mul (FG.mul s2 s2) s2) (v2 YW):=by
 show FG.Z _∧FG.Z _
 decide +kernel
theorem im_ph:Im FI 4 phA:=.of FI hm_id (s:=s1) (by decide +kernel) (by show FI.Z _;decide +kernel) (fun A=>by
 rcases A with _|⟨x,y⟩
 ·trivial
 ·refine⟨FI.mul_eq (FI.refl _) ph_s.1,?_⟩
  have:=FI.mul_eq (FI.refl y) ph_s.2
  rwa [show FI.mul y (FI.int 1)=y from Int.mul_one y] at this) rfl
theorem im_ps:Im FG (4,4) psA:=.of FG hm_gc (s:=s2) (by decide +kernel) (by show FG.Z _;decide +kernel) (fun A=>by
 rcases A with _|⟨x,y⟩
 ·trivial
 ·exact⟨FG.mul_eq (FG.refl _) ps_s.1,FG.mul_eq (FG.refl _) ps_s.2⟩) rfl
theorem hb1:¬FI.Z 4:=by decide +kernel
theorem hb2:¬FG.Z (4,4):=by decide +kernel
def x1:Int:=3685416753713387016781088315183077757961620795782546409894578378688607592378376318836054947676345821548104185464507
def y1:Int:=1339506544944476473020471379941921221584933875938349620426543736416511423956333506472724655353366534992391756441569
def x2:G:=(352701069587466618187139116011060144890029952792775240219908644239793785735715026873347600343865175952761926303160,3059144344244213709971259814753781636986470325476647558659373206291635324768958432433509563104347017837885763365758)
def y2:G:=(1985150602287291935568054521177171638300868978215655730859378665066344726373823718423869104263333984641494340347905,927553665492332455747201965776037880757740193453592970025027978793976877002675564980949289727957565575433344219582)
theorem on1:OnP FI 4 (some (x1,y1)):=by
 show FI.Z _
 decide +kernel
theorem on2:OnP FG (4,4) (some (x2,y2)):=by
 show FG.Z _
 decide +kernel
theorem tor1:Mult FI rN (some (x1,y1)) none:=jn_nil FI hb1 hred1 on1 (f:=260) (by decide +kernel) (by decide +kernel) (by decide +kernel)
theorem tor2:Mult FG rN (some (x2,y2)) none:=jn_nil FG hb2 hred2 on2 (f:=260) (by decide +kernel) (by decide +kernel) (by decide +kernel)
def d1:Pt Int:=some (2955502424945903910818211227715611350235962252786689152026508822630880086494552779684133657799159957258494931727904,2662903010277190920397318445793982934971948944000658264905514399707520226534504357969962973775649129045502516118218)
def d2:Pt G:=some ((3173817679043455518561028855769621774971450671729042202579931057243242334374140167576873990769662989875082501930087,1061903119136554661252589027312479841350528275070755452158378537709581847493347774609704687139029127751805506262137),(2433393532946135937969546957635234136897321940025952659409177298338507215042517770421013533566896591233554661788102,3194553889017460652502693541215092109821324752267022735294656496392020697692657217737993669207895809888989201996591))
theorem mu1:Mult FI (xN*xN) (some (x1,y1)) d1:=jn_at FI hb1 hred1 on1 (f:=130) (by decide +kernel) (by decide +kernel) (by decide +kernel) (by show FI.Z _;decide +kernel) (by show FI.Z _;decide +kernel)
theorem mu2:Mult FG xN (some (x2,y2)) d2:=jn_at FG hb2 hred2 on2 (f:=66) (by decide +kernel) (by decide +kernel) (by decide +kernel) (by show FG.Z _;decide +kernel) (by show FG.Z _;decide +kernel)
theorem ph1:EqP FI (phA (some (x1,y1))) (negP FI d1):=by
 show FI.Z _∧FI.Z _
 decide +kernel
theorem ps2:EqP FG (psA (some (x2,y2))) (negP FG d2):=by
 show FG.Z _∧FG.Z _
 decide +kernel
end SubM
namespace SubM
open Go Ring Base Limb Fp Fp2 Ec Pts
section
variable {α:Type} (K:Nk α) {c:α} {r:Nat} {A B:Pt α}
def inB (c:α)(r:Nat)(A:Pt α):Bool:=onB K c A&&ptB (mulP K.F r A)
theorem inB_iff:inB K c r A=true↔OnP K.F c A∧Mult K.F r A none:=by
 rw[inB,Bool.and_eq_true,onB_iff]
 exact⟨fun h=>⟨h.1,(tor_iff K.F h.1).2 h.2⟩,fun h=>⟨h.1,(tor_iff K.F h.1).1 h.2⟩⟩
theorem inB_eq (h:EqP K.F A B):inB K c r A=inB K c r B:=by rw[inB,inB,onB_eq K h,(out_eq K (mulP_eq K h r)).2]
theorem inB_off (h:onB K c A=false):inB K c r A=false:=by rw[inB,h,Bool.false_and]
theorem in_none:inB K c r none=true:=(inB_iff K).2 ⟨trivial,mult_none K.F r⟩
theorem in_v (A:Pt α):inB K c r (vo K A)=inB K c r A:=inB_eq K (ptv_out K A)
section
variable (hc:¬K.F.Z c)
include hc
theorem in_mul (a:inB K c r A=true)(m:Nat):inB K c r (mulP K.F m A)=true:=by
 obtain⟨h1,h2⟩:=(inB_iff K).1 a
 have h:=mulP_mult K.F h1 m
 exact (inB_iff K).2 ⟨h.2,tor_mult K.F hc h1 h2 h.1⟩
theorem in_mo (a:inB K c r A=true)(m:Nat):inB K c r (mulO K c m A)=true:=by
 have h:=in_mul K hc a m
 rw[←mulO_on K ((inB_iff K).1 a).1] at h
 exact h
theorem in_sum (a:inB K c r A=true)(b:inB K c r B=true):inB K c r (addP K.F A B)=true:=by
 obtain⟨h1,h2⟩:=(inB_iff K).1 a
 obtain⟨k1,k2⟩:=(inB_iff K).1 b
 have h:=add_sum K.F h1 k1
 exact (inB_iff K).2 ⟨sum_on K.F h1 k1 h,tor_sum K.F hc h1 k1 h2 k2 h⟩
end
theorem in_neg (a:inB K c r A=true):inB K c r (negP K.F A)=true:=by
 obtain⟨h1,h2⟩:=(inB_iff K).1 a
 exact (inB_iff K).2 ⟨onP_neg K.F h1,mult_neg K.F h2⟩
theorem in_on (a:inB K c r A=true):onB K c A=true:=(onB_iff K).2 ((inB_iff K).1 a).1
variable {f:Pt α→Pt α} {D:Pt α} {m k:Nat}
theorem in_add_v (hc:¬K.F.Z c)(a:inB K c r A=true)(b:inB K c r B=true):inB K c r (vo K (addP K.F (vo K A) (vo K B)))=true:=by
 rw[in_v,inB_eq K (add_v K (eqP_refl K.F A) (eqP_refl K.F B))]
 exact in_sum K hc a b
theorem in_neg_v (a:inB K c r A=true):inB K c r (vo K (negP K.F (vo K A)))=true:=by
 rw[in_v,inB_eq K (neg_v K A)]
 exact in_neg K a
theorem mo_mult (h:onB K c A=true)(m:Nat):Mult K.F m A (mulO K c m A):=by
 rw[mulO,if_pos h]
 exact (mulP_mult K.F ((onB_iff K).1 h) m).1
end
end SubM
namespace S14D
open Go Go.RowKit Reg Base Limb Sx Fp Fp2 Ec Pts SubM
def rL:List Int:=[18446744069414584321,6034159408538082302,3691218898639771653,8353516859464449352]
theorem r_num:(num rL).toNat=rN:=by decide +kernel
theorem ne1:¬G1K.K1.F.Z (G1K.K1.F.int 4):=hb1
theorem ne2:¬G2K.K2.F.Z G2K.bb:=hb2
theorem b1:ptv G1K.K1 S12R.BL false=some (x1,y1):=by
 have e1:G1K.K1.va (seg 0 G1K.K1.n S12R.BL)=x1:=by decide +kernel
 have e2:G1K.K1.va (seg G1K.K1.n G1K.K1.n S12R.BL)=y1:=by decide +kernel
 rw[ptv_f,e1,e2]
theorem b2:ptv G2K.K2 S13R.BL false=some (x2,y2):=by
 have e1:G2K.K2.va (seg 0 G2K.K2.n S13R.BL)=x2:=by decide +kernel
 have e2:G2K.K2.va (seg G2K.K2.n G2K.K2.n S13R.BL)=y2:=by decide +kernel
 rw[ptv_f,e1,e2]
theorem in1:inB G1K.K1 (G1K.K1.F.int 4) rN (ptv G1K.K1 S12R.BL false)=true:=(inB_iff G1K.K1).2 ⟨by rw[b1];exact on1,by rw[b1];exact tor1⟩
theorem in2:inB G2K.K2 G2K.bb rN (ptv G2K.K2 S13R.BL false)=true:=(inB_iff G2K.K2).2 ⟨by rw[b2];exact on2,by rw[b2];exact tor2⟩
theorem on_b1:onB G1K.K1 (G1K.K1.F.int 4) (ptv G1K.K1 S12R.BL false)=true:=in_on G1K.K1 in1
theorem on_b2:onB G2K.K2 G2K.bb (ptv G2K.K2 S13R.BL false)=true:=in_on G2K.K2 in2
theorem ph_w (x:List Int):wm G1K.K1 (seg 0 6 x) BW++wr G1K.K1 (seg 6 6 x)=ptW G1K.K1 (phA (ptv G1K.K1 x false)):=rfl
theorem ps_w (x:List Int):F2 (gm (v2 (F2 (gc (v2 (seg 0 12 x))))) (v2 XW))++F2 (gm (v2 (F2 (gc (v2 (seg 12 12 x))))) (v2 YW))=ptW G2K.K2 (psA (ptv G2K.K2 x false)):=by
 rw[F2_eq (gm_congr (v2_F2 (gc (v2 (seg 0 12 x)))) E2.rfl),F2_eq (gm_congr (v2_F2 (gc (v2 (seg 12 12 x)))) E2.rfl)]
 rfl
end S14D
namespace SubM
set_option maxRecDepth 100000
open Go Ring Base Limb Fp Fp2 Ec Pts Ab Num
section
variable {γ:Type} (E:Ab γ)
theorem nx_ng (x:γ)(n:Nat):E.nx n (E.neg x)=E.neg (E.nx n x):=E.neg_of (by rw[←nx_sum,E.inv,nx_O])
theorem ng_ng (x:γ):E.neg (E.neg x)=x:=(E.neg_of (by rw[E.comm,E.inv])).symm
variable {φ:γ→γ} (hφ:∀x y,φ (E.add x y)=E.add (φ x) (φ y)) {r m:Nat}
include hφ
theorem phi_ng (x:γ):φ (E.neg x)=E.neg (φ x):=E.neg_of (by rw[←hφ,E.inv,phi_O E hφ])
theorem phi_two {x:γ}(h:φ x=E.nx m (E.neg x)):φ (φ x)=E.nx (m*m) x:=by
 rw[h,phi_nx E hφ,phi_ng E hφ,h,nx_ng,nx_ng,nx_ng,ng_ng,nx_mul]
theorem kill {x:γ}(h3:E.add (E.add (φ (φ x)) (φ x)) x=E.O)(h:φ x=E.nx m (E.neg x))(hr:r+m=m*m+1):E.nx r x=E.O:=by
 rw[phi_two E hφ h,h,nx_ng] at h3
 have e:E.add (E.nx (m*m) x) x=E.nx m x:=by
  have e1:E.add (E.neg (E.nx m x)) (E.add (E.nx (m*m) x) x)=E.O:=by
   rw[←E.assoc,E.comm (E.neg _),h3]
  exact (E.neg_of e1).trans (ng_ng E _)
 have e2:E.add (E.nx r x) (E.nx m x)=E.nx m x:=by
  rw[←nx_add,hr,nx_add,nx_one,e]
 exact E.cancel (x:=E.nx m x) (by rw[E.comm,e2,E.zero])
theorem tors_im {P B:γ}(ht:∀x,E.nx r x=E.O→∃k,x=E.nx k P)(hr:Pr r)(hP:E.nx r P=E.O)(hB:E.nx r B=E.O)(hne:B≠E.O)(h:φ B=E.nx m (E.neg B)){x:γ}(hx:E.nx r x=E.O):φ x=E.nx m (E.neg x):=by
 have d1:∀k,E.add (φ (E.nx k P)) (E.nx m (E.nx k P))=E.nx k (E.add (φ P) (E.nx m P)):=fun k=>by
  rw[nx_sum,phi_nx E hφ,nx_comm E m k]
 have d2:E.add (φ B) (E.nx m B)=E.O:=by rw[h,←nx_sum,E.comm,E.inv,nx_O]
 have d3:E.add (φ P) (E.nx m P)=E.O:=by
  obtain⟨k,hk⟩:=ht B hB
  have e1:E.nx k (E.add (φ P) (E.nx m P))=E.O:=by rw[←d1,←hk,d2]
  have e2:E.nx r (E.add (φ P) (E.nx m P))=E.O:=by
   rw[nx_sum,←phi_nx E hφ,hP,phi_O E hφ,nx_comm E m r,hP,nx_O,E.zero]
  have hk':¬r ∣ k:=fun hd=>hne (hk.trans (nx_dvd E hd hP))
  have e3:=nx_gcd E _ _ e1 e2
  rwa [show Nat.gcd k r=1 from hr.coprime hk',nx_one] at e3
 obtain⟨j,rfl⟩:=ht x hx
 have e:=d1 j
 rw[d3,nx_O] at e
 rw[nx_ng]
 exact E.neg_of (by rw[E.comm,e])
end
section
variable {α:Type} (F:Go.Proofs.YtfjiinaekcibhaaGreatDoor.Ec.Fd α) {b:α} {f:Pt α→Pt α} {A B C D:Pt α} {r k m n:Nat} [DecidablePred F.Z]
def imG (h:Im F b f)(x:EG F b):EG F b:=Quotient.liftOn x (fun A=>mk F (f A.1) (h.on.2 A.2)) (fun A A' e=>mk_eq F (h.eq e))
theorem im_mk (h:Im F b f){a:OnP F b A}:imG F h (mk F A a)=mk F (f A) (h.on.2 a):=rfl
theorem imG_add (hb:¬F.Z b)(h:Im F b f)(x y:EG F b):imG F h ((gp F hb).add x y)=(gp F hb).add (imG F h x) (imG F h y):=by
 obtain⟨A,a,rfl⟩:=mk_ex F x
 obtain⟨B,e,rfl⟩:=mk_ex F y
 obtain⟨D,hD,d⟩:=sum_ex F a e
 show imG F h (addG F (mk F A a) (mk F B e))=addG F (imG F h (mk F A a)) (imG F h (mk F B e))
 rw[add_mk F (c:=d) hD,im_mk,im_mk,im_mk,add_mk F (c:=h.on.2 d) (h.sum hD)]
theorem tor_nx (hb:¬F.Z b)(a:OnP F b A):Mult F n A none↔(gp F hb).nx n (mk F A a)=(gp F hb).O:=by
 constructor
 ·intro h
  exact nx_mk F hb (C:=none) (c:=(trivial:OnP F b none)) h
 ·intro h
  obtain⟨C,hC,c⟩:=mult_ex F n a
  have e:=(nx_mk F hb (a:=a) (c:=c) hC).symm.trans h
  exact mult_eq F (eqP_refl F A) (eq_mk F (k:=(trivial:OnP F b none)) e) hC
theorem mul_nx (hb:¬F.Z b)(a:OnP F b A)(m:Nat):(gp F hb).nx m (mk F A a)=mk F (mulP F m A) (mulP_mult F a m).2:=nx_mk F hb (mulP_mult F a m).1
theorem im_nx (hb:¬F.Z b)(h:Im F b f)(a:OnP F b A):EqP F (f A) (mulP F m (negP F A))↔imG F h (mk F A a)=(gp F hb).nx m ((gp F hb).neg (mk F A a)):=by
 have e:(gp F hb).nx m ((gp F hb).neg (mk F A a))=mk F (mulP F m (negP F A)) (mulP_mult F (onP_neg F a) m).2:=mul_nx F hb (onP_neg F a) m
 rw[e,im_mk]
 exact⟨fun h=>mk_eq F h,fun h=>eq_mk F h⟩
end
section
variable {α:Type} (K:Nk α) {c:α} {r m:Nat} {f:Pt α→Pt α} {A:Pt α}
theorem sm_eq {A B:Pt α}(h:Sm K A B):EqP K.F A B:=by
 have e:=eqP_symm K.F (ptv_out K A)
 rw[h.1,h.2] at e
 exact eqP_trans K.F e (ptv_out K B)
theorem in_sm (hi:∀{A:Pt α},OnP K.F c A→(Mult K.F r A none↔EqP K.F (f A) (mulP K.F m (negP K.F A))))(h:onB K c A=true):inB K c r A=true↔Sm K (f A) (mulO K c m (vo K (negP K.F A))):=by
 have a:=(onB_iff K).1 h
 have an:onB K c (vo K (negP K.F A))=true:=(on_v K _).trans ((onB_iff K).2 (onP_neg K.F a))
 have e:EqP K.F (mulO K c m (vo K (negP K.F A))) (mulP K.F m (negP K.F A)):=by
  rw[mulO,if_pos an]
  exact mulP_eq K (ptv_out K _) m
 rw[inB_iff]
 constructor
 ·intro k
  exact sm K (eqP_trans K.F ((hi a).1 k.2) (eqP_symm K.F e))
 ·intro k
  exact⟨a,(hi a).2 (eqP_trans K.F (sm_eq K k) e)⟩
theorem im_on (h:onB K c A=true):onB K c (vo K (negP K.F A))=true:=(on_v K _).trans ((onB_iff K).2 (onP_neg K.F ((onB_iff K).1 h)))
theorem im_off (h:onB K c A=false):onB K c (vo K (negP K.F A))=false:=by
 rw[on_v,Bool.eq_false_iff]
 intro k
 have k1:=onP_neg K.F ((onB_iff K).1 k)
 have k2:=(onB_iff K).2 (onP_eq K.F (neg_neg K A) k1)
 rw[h] at k2
 cases k2
end
theorem pr_rN:Pr rN:=pr_r
theorem ht1:FI.Z (FI.add (FI.add (FI.mul (num BW) (num BW)) (num BW)) (FI.int 1)):=by decide +kernel
theorem ph_g (x:EG FI 4):imG FI im_ph x=phG FI ht1 x:=by
 obtain⟨A,a,rfl⟩:=mk_ex FI x
 rw[im_mk,ph_mk]
 refine mk_eq FI ?_
 rcases A with _|⟨x,y⟩
 ·trivial
 ·refine⟨?_,FI.refl y⟩
  show FI.eq (FI.mul x (num BW)) (FI.mul (num BW) x)
  rw[FI.mul_comm]
  exact FI.refl _
def cc:G:=(4002409555221667392624310435006688643935503118305586438271171395842971157480381377015405980053539358417135540939436,0)
theorem ht2:FG.Z (FG.add (FG.add (FG.mul cc cc) cc) (FG.int 1)):=by
 show _∧_
 decide +kernel
theorem hc2:FG.eq (gm (gc (v2 XW)) (v2 XW)) cc∧FG.eq (gm (gc (v2 YW)) (v2 YW)) (FG.int (-1)):=by
 show FG.Z _∧FG.Z _
 decide +kernel
theorem gcc (x c:G):gm (gc (gm (gc x) c)) c=gm x (gm (gc c) c):=by
 have e1:gc (gm (gc x) c)=gm (gc (gc x)) (gc c):=hm_gc.mul _ _
 have e2:gc (gc x)=x:=by
  apply Prod.ext<;>simp[gc]
 rw[e1,e2]
 exact FG.mul_assoc _ _ _
theorem ps_two (x:EG FG (4,4)):imG FG im_ps (imG FG im_ps x)=(gp FG hb2).neg (phG FG ht2 x):=by
 obtain⟨A,a,rfl⟩:=mk_ex FG x
 rw[im_mk,im_mk,ph_mk]
 refine mk_eq FG ?_
 rcases A with _|⟨x,y⟩
 ·trivial
 ·refine⟨?_,?_⟩
  ·show FG.eq (gm (gc (gm (gc x) (v2 XW))) (v2 XW)) (FG.mul cc x)
   rw[gcc,FG.mul_comm]
   exact FG.mul_eq (FG.refl x) hc2.1
  ·show FG.eq (gm (gc (gm (gc y) (v2 YW))) (v2 YW)) (FG.sub (FG.int 0) y)
   rw[gcc]
   have e:FG.mul y (FG.int (-1))=FG.sub (FG.int 0) y:=FG.eq_of (fun _=>y) (e:=.m (.v 0) (.n (-1))) (f:=.s (.n 0) (.v 0)) rfl rfl (by decide)
   rw[←e]
   exact FG.mul_eq (FG.refl y) hc2.2
theorem r_x:rN+xN*xN=xN*xN*(xN*xN)+1:=by decide +kernel
theorem base_im {α:Type}(F:Go.Proofs.YtfjiinaekcibhaaGreatDoor.Ec.Fd α)[DecidablePred F.Z]{b:α}{f:Pt α→Pt α}{B D:Pt α}{m:Nat}(hb:¬F.Z b)(h:Im F b f)(a:OnP F b B)(hD:Mult F m B D)(hf:EqP F (f B) (negP F D)):imG F h (mk F B a)=(gp F hb).nx m ((gp F hb).neg (mk F B a)):=by
 refine (im_nx F hb h a).1 (eqP_trans F hf ?_)
 exact mult_un F (mult_neg F hD) (mulP_mult F (onP_neg F a) m).1
theorem base_ne {α:Type}(F:Go.Proofs.YtfjiinaekcibhaaGreatDoor.Ec.Fd α)[DecidablePred F.Z]{b:α}{x:α×α}(a:OnP F b (some x))(hb:¬F.Z b):mk F (some x) a≠(gp F hb).O:=fun h=>eq_mk F (A:=some x) (B:=none) (h:=a) (k:=(trivial:OnP F b none)) h
theorem kr {γ:Type}(E:Ab γ){r a n:Nat}{x:γ}(h:E.nx n x=E.O)(e:r*a=n):E.nx r (E.nx a x)=E.O:=by rw[←nx_mul,e,h]
theorem iff1 {A:Pt Int}(a:OnP FI 4 A):Mult FI rN A none↔EqP FI (phA A) (mulP FI (xN*xN) (negP FI A)):=by
 rw[tor_nx FI hb1 a,im_nx FI hb1 im_ph a]
 constructor
 ·exact tors_im (gp FI hb1) (imG_add FI hb1 im_ph) (fun x h=>Ord1.of_r h) pr_rN (kr _ Ord1.hP (by decide +kernel)) ((tor_nx FI hb1 on1).1 tor1) (base_ne FI on1 hb1) (base_im FI hb1 im_ph on1 mu1 ph1)
 ·intro h
  exact kill (gp FI hb1) (imG_add FI hb1 im_ph) (by rw[ph_g,ph_g];exact phG_three FI hb1 ht1 _) h r_x
theorem iff2 {A:Pt G}(a:OnP FG (4,4) A):Mult FG rN A none↔EqP FG (psA A) (mulP FG xN (negP FG A)):=by
 rw[tor_nx FG hb2 a,im_nx FG hb2 im_ps a]
 constructor
 ·exact tors_im (gp FG hb2) (imG_add FG hb2 im_ps) (fun x h=>Ord2.of_r h) pr_rN (kr _ Ord2.hP (by decide +kernel)) ((tor_nx FG hb2 on2).1 tor2) (base_ne FG on2 hb2) (base_im FG hb2 im_ps on2 mu2 ps2)
 ·intro h
  have e:=phi_two (gp FG hb2) (imG_add FG hb2 im_ps) h
  rw[ps_two] at e
  have e2:phG FG ht2 (mk FG A a)=(gp FG hb2).nx (xN*xN) ((gp FG hb2).neg (mk FG A a)):=by
   rw[nx_ng,←e,ng_ng]
  exact kill (gp FG hb2) (phG_add FG hb2 ht2) (phG_three FG hb2 ht2 _) e2 r_x
end SubM
namespace S14O
open Go Go.RowKit Reg Base Limb Sx Fp Fp2 Ec Pts SubM S14D
set_option maxHeartbeats 1000000
def GL:List (Nat×Row):=[(0,[.nums 6 bbL]),(1,[.nums 12 bxL]),(2,[.nums 12 byL])]
theorem has_nums {u:World}{g t n:Nat}{xs:List Int}(h:Has u g t (vals .u64 xs)):Has u g t (den [.nums n xs]).toArray:=by
 have:(den [.nums n xs]).toArray=vals .u64 xs:=by simp[den,Sg.den,vals]
 rw[this]
 exact h
theorem GL_ok:GlOk GlobD GL:=fun n r h=>by
 unfold GL lookG at h
 split at h
 ·rename_i hn
  subst hn
  obtain rfl:=Option.some.inj h
  exact⟨⟨⟨rfl,words_of _ (by decide)⟩,trivial⟩,fun u hu=>hu.x3.imp fun t h=>has_nums h⟩
 ·unfold lookG at h
  split at h
  ·rename_i hn
   subst hn
   obtain rfl:=Option.some.inj h
   exact⟨⟨⟨rfl,words_of _ (by decide)⟩,trivial⟩,fun u hu=>hu.x4.imp fun t h=>has_nums h⟩
  ·unfold lookG at h
   split at h
   ·rename_i hn
    subst hn
    obtain rfl:=Option.some.inj h
    exact⟨⟨⟨rfl,words_of _ (by decide)⟩,trivial⟩,fun u hu=>hu.x5.imp fun t h=>has_nums h⟩
   ·cases h
def L0:List (Fact Tryz.prog GlobD):=S12O.pMul.fact (.con Tryz.func68 rfl (by decide) S12O.pMul) ::
 S12O.pReduce.fact (.con Tryz.func82 rfl (by decide) S12O.pReduce) ::
 S7.lMul.fact (.con Tryz.func64 rfl (by decide) S7.lMul) ::
 S7.lConj.fact (.con Tryz.func91 rfl (by decide) S7.lConj) ::
 []
def T0:List (FuncId×Ent2):=[(58,entG [.p 12] G1K.Pre0 (G1K.o1 fun x b=>G1K.PA (negP G1K.K1.F (ptv G1K.K1 x b)))),(15,entG [.sl,.p 12] G1K.Pre0 (S12R.oM S12R.mulA)),(22,entG [.p 24] G2K.Pre0 (G2K.o1 fun x b=>G2K.PA (negP G2K.K2.F (ptv G2K.K2 x b)))),(17,entG [.sl,.p 24] G2K.Pre0 (S13R.oM S13R.mulA))]
theorem T0_ok:TOk2 Tryz.prog GlobD T0:=⟨.conG Tryz.func58 rfl (by decide) S12O.lNeg,.conG Tryz.func15 rfl (by decide) S12O.lMul,.conG Tryz.func22 rfl (by decide) S13O.lNeg,.conG Tryz.func17 rfl (by decide) S13O.lMul,trivial⟩
noncomputable def X0: Cx:=(((Cx.of [(28,6),(30,12)] (tb L0)).eqs [(41,12),(43,24)]).more T0).glob GL
theorem X0_ok: CxOk Tryz.prog X0 GlobD:=(((cx_ok (E:=[(28,6),(30,12)]) L0 ⟨⟨G1K.eqF,G1K.gdF⟩,⟨G2K.eqF,G2K.gdF⟩,trivial⟩ (by kernel_rfl)).eqs (EM:=[(41,12),(43,24)]) ⟨⟨G1K.eqG,G1K.gdG⟩,⟨G2K.eqG,G2K.gdG⟩,trivial⟩).more T0_ok).glob GL_ok
set_option maxRecDepth 100000 in
theorem lPhi:ConG Tryz.prog GlobD 56 [.p 12] G1K.Pre0 (G1K.o1 fun x b=>G1K.PA (phA (ptv G1K.K1 x b))):=G1K.con1 (fun x b n=>G1K.pa_ok _ _) (fun x b gs=>by rw[G1K.pa_den,G1K.pa_den]) (fun x hx b w hG=>by
 cases b
 ·exact fn_outS (N:=9) X0_ok GlobD.keep Tryz.func56 [] (fun s hs=>by cases hs) (G1K.noSS hG) (args:=[.agg [.nums 12 x,.nm (.bl false)]]) (q:=[false]) (v:=(.agg [.nums 12 (wm G1K.K1 (seg 0 6 x) BW++wr G1K.K1 (seg 6 6 x)),.nm (.bl false)])) (obs:=[false=false]) 1 (by kernel_rfl) (hp (rfl) trivial) (fun v hv=>by
   simp only[List.mem_cons,List.not_mem_nil,or_false] at hv
   obtain rfl:=hv
   exact⟨hx,trivial,trivial⟩) (by rw[ph_w,G1K.pa_den,G1K.p_den];rfl) (by first|(simp only[List.map_cons,List.map_nil,G1K.p_den,G2K.p_den];rfl)|simp only[List.map_cons,List.map_nil,G1K.p_den,G2K.p_den])
 ·exact fn_outS (N:=9) X0_ok GlobD.keep Tryz.func56 [] (fun s hs=>by cases hs) (G1K.noSS hG) (args:=[.agg [.nums 12 x,.nm (.bl true)]]) (q:=[true]) (v:=(G1K.PA none)) (obs:=[true=true]) 1 (by kernel_rfl) (hp (rfl) trivial) (fun v hv=>by
   simp only[List.mem_cons,List.not_mem_nil,or_false] at hv
   obtain rfl:=hv
   exact⟨hx,trivial,trivial⟩) (by rw[ptv_t];rfl) (by first|(simp only[List.map_cons,List.map_nil,G1K.p_den,G2K.p_den];rfl)|simp only[List.map_cons,List.map_nil,G1K.p_den,G2K.p_den]))
set_option maxRecDepth 100000 in
theorem lPsi:ConG Tryz.prog GlobD 60 [.p 24] G2K.Pre0 (G2K.o1 fun x b=>G2K.PA (psA (ptv G2K.K2 x b))):=G2K.con1 (fun x b n=>G2K.pa_ok _ _) (fun x b gs=>by rw[G2K.pa_den,G2K.pa_den]) (fun x hx b w hG=>by
 cases b
 ·exact fn_outS (N:=9) X0_ok GlobD.keep Tryz.func60 [] (fun s hs=>by cases hs) (G1K.noSS hG) (args:=[.agg [.nums 24 x,.nm (.bl false)]]) (q:=[false]) (v:=(.agg [.nums 24 (F2 (gm (v2 (F2 (gc (v2 (seg 0 12 x))))) (v2 XW))++F2 (gm (v2 (F2 (gc (v2 (seg 12 12 x))))) (v2 YW))),.nm (.bl false)])) (obs:=[false=false]) 1 (by kernel_rfl) (hp (rfl) trivial) (fun v hv=>by
   simp only[List.mem_cons,List.not_mem_nil,or_false] at hv
   obtain rfl:=hv
   exact⟨hx,trivial,trivial⟩) (by rw[ps_w,G2K.pa_den,G2K.p_den];rfl) (by first|(simp only[List.map_cons,List.map_nil,G1K.p_den,G2K.p_den];rfl)|simp only[List.map_cons,List.map_nil,G1K.p_den,G2K.p_den])
 ·exact fn_outS (N:=9) X0_ok GlobD.keep Tryz.func60 [] (fun s hs=>by cases hs) (G1K.noSS hG) (args:=[.agg [.nums 24 x,.nm (.bl true)]]) (q:=[true]) (v:=(G2K.PA none)) (obs:=[true=true]) 1 (by kernel_rfl) (hp (rfl) trivial) (fun v hv=>by
   simp only[List.mem_cons,List.not_mem_nil,or_false] at hv
   obtain rfl:=hv
   exact⟨hx,trivial,trivial⟩) (by rw[ptv_t];rfl) (by first|(simp only[List.map_cons,List.map_nil,G1K.p_den,G2K.p_den];rfl)|simp only[List.map_cons,List.map_nil,G1K.p_den,G2K.p_den]))
def TI:List (FuncId×Ent2):=[(56,entG [.p 12] G1K.Pre0 (G1K.o1 fun x b=>G1K.PA (phA (ptv G1K.K1 x b)))),(60,entG [.p 24] G2K.Pre0 (G2K.o1 fun x b=>G2K.PA (psA (ptv G2K.K2 x b)))),(58,entG [.p 12] G1K.Pre0 (G1K.o1 fun x b=>G1K.PA (negP G1K.K1.F (ptv G1K.K1 x b)))),(15,entG [.sl,.p 12] G1K.Pre0 (S12R.oM S12R.mulA)),(22,entG [.p 24] G2K.Pre0 (G2K.o1 fun x b=>G2K.PA (negP G2K.K2.F (ptv G2K.K2 x b)))),(17,entG [.sl,.p 24] G2K.Pre0 (S13R.oM S13R.mulA))]
theorem TI_ok:TOk2 Tryz.prog GlobD TI:=⟨.conG Tryz.func56 rfl (by decide) lPhi,.conG Tryz.func60 rfl (by decide) lPsi,.conG Tryz.func58 rfl (by decide) S12O.lNeg,.conG Tryz.func15 rfl (by decide) S12O.lMul,.conG Tryz.func22 rfl (by decide) S13O.lNeg,.conG Tryz.func17 rfl (by decide) S13O.lMul,trivial⟩
noncomputable def TC: List (FuncId×Ent2):=(57,entQ Tryz.prog 57 X0 9 []) :: (61,entQ Tryz.prog 61 X0 9 []) :: TI
theorem TC_ok: TOk2 Tryz.prog GlobD (TC ):=⟨.inlineQ X0_ok GlobD.keep Tryz.func57 rfl (by decide),.inlineQ X0_ok GlobD.keep Tryz.func61 rfl (by decide),TI_ok⟩
noncomputable def XC: Cx:=(((Cx.of [(28,6),(30,12)] (tb L0)).eqs [(41,12),(43,24)]).more TC).glob GL
theorem XC_ok: CxOk Tryz.prog XC GlobD:=(((cx_ok (E:=[(28,6),(30,12)]) L0 ⟨⟨G1K.eqF,G1K.gdF⟩,⟨G2K.eqF,G2K.gdF⟩,trivial⟩ (by kernel_rfl)).eqs (EM:=[(41,12),(43,24)]) ⟨⟨G1K.eqG,G1K.gdG⟩,⟨G2K.eqG,G2K.gdG⟩,trivial⟩).more TC_ok).glob GL_ok
noncomputable def TD (q:List Bool):List (FuncId×Ent2):=(55,entQ Tryz.prog 55 XC 9 q) :: (59,entQ Tryz.prog 59 XC 9 q) :: TI
theorem TD_ok (q:List Bool):TOk2 Tryz.prog GlobD (TD q):=⟨.inlineQ XC_ok GlobD.keep Tryz.func55 rfl (by decide),.inlineQ XC_ok GlobD.keep Tryz.func59 rfl (by decide),TI_ok⟩
noncomputable def XD (q:List Bool):Cx:=(((Cx.of [(28,6),(30,12)] (tb L0)).eqs [(41,12),(43,24)]).more (TD q)).glob GL
theorem XD_ok (q:List Bool):CxOk Tryz.prog (XD q) GlobD:=(((cx_ok (E:=[(28,6),(30,12)]) L0 ⟨⟨G1K.eqF,G1K.gdF⟩,⟨G2K.eqF,G2K.gdF⟩,trivial⟩ (by kernel_rfl)).eqs (EM:=[(41,12),(43,24)]) ⟨⟨G1K.eqG,G1K.gdG⟩,⟨G2K.eqG,G2K.gdG⟩,trivial⟩).more (TD_ok q)).glob GL_ok
def qL1:List Int:=[4294967296,12413508272118670338]
def qL2:List Int:=[15132376222941642752]
theorem q1_num:(num qL1).toNat=xN*xN:=by decide +kernel
theorem q2_num:(num qL2).toNat=xN:=by decide +kernel
set_option maxRecDepth 100000 in
theorem lIn1:ConG Tryz.prog GlobD 26 [.p 12] G1K.Pre0 (G1K.o1 fun x b=>.bl (inB G1K.K1 (G1K.K1.F.int 4) rN (ptv G1K.K1 x b))):=G1K.con1 (fun x b n=>trivial) (fun x b gs=>rfl) (fun x hx b w hG=>by
 cases ho:onB G1K.K1 (G1K.K1.F.int 4) (ptv G1K.K1 x b)
 ·exact fn_outS (N:=9) (XD_ok [false]) GlobD.keep Tryz.func26 [] (fun s hs=>by cases hs) (G1K.noSS hG) (args:=[.agg [.nums 12 x,.nm (.bl b)]]) (q:=[]) (v:=(.bl false)) (obs:=[2≤10000,qb false ((if onB G1K.K1 (G1K.K1.F.int 4) (ptv G1K.K1 (ptW G1K.K1 (negP G1K.K1.F (ptv G1K.K1 x b))) (ptB (negP G1K.K1.F (ptv G1K.K1 x b))))=true then (0:Int) else 120)=0)]) 1 (by kernel_rfl) (hp (by decide) (hp (by rw[im_off G1K.K1 ho];exact (by decide:¬(120:Int)=0)) trivial)) (fun v hv=>by
   simp only[List.mem_cons,List.not_mem_nil,or_false] at hv
   obtain rfl:=hv
   exact⟨hx,trivial,trivial⟩) (congrArg Value.bool (inB_off G1K.K1 ho).symm) (by first|(simp only[List.map_cons,List.map_nil,G1K.p_den,G2K.p_den];rfl)|simp only[List.map_cons,List.map_nil,G1K.p_den,G2K.p_den])
 ·cases hi:inB G1K.K1 (G1K.K1.F.int 4) rN (ptv G1K.K1 x b)
  ·exact fn_outS (N:=9) (XD_ok [true,false]) GlobD.keep Tryz.func26 [] (fun s hs=>by cases hs) (G1K.noSS hG) (args:=[.agg [.nums 12 x,.nm (.bl b)]]) (q:=[]) (v:=(.bl false)) (obs:=[2≤10000,qb true ((if onB G1K.K1 (G1K.K1.F.int 4) (ptv G1K.K1 (ptW G1K.K1 (negP G1K.K1.F (ptv G1K.K1 x b))) (ptB (negP G1K.K1.F (ptv G1K.K1 x b))))=true then (0:Int) else 120)=0),qb false (ptW G1K.K1 (phA (ptv G1K.K1 x b))=ptW G1K.K1 (mulO G1K.K1 (G1K.K1.F.int 4) (num [4294967296,12413508272118670338]).toNat (ptv G1K.K1 (ptW G1K.K1 (negP G1K.K1.F (ptv G1K.K1 x b))) (ptB (negP G1K.K1.F (ptv G1K.K1 x b)))))∧ptB (phA (ptv G1K.K1 x b))=ptB (mulO G1K.K1 (G1K.K1.F.int 4) (num [4294967296,12413508272118670338]).toNat (ptv G1K.K1 (ptW G1K.K1 (negP G1K.K1.F (ptv G1K.K1 x b))) (ptB (negP G1K.K1.F (ptv G1K.K1 x b))))))]) 1 (by kernel_rfl) (hp (by decide) (hp (if_pos (im_on G1K.K1 ho)) (hp (by rw[show (num [4294967296,12413508272118670338]).toNat=xN*xN from q1_num];exact fun k=>Bool.false_ne_true (hi.symm.trans ((in_sm G1K.K1 iff1 ho).2 k))) trivial))) (fun v hv=>by
   simp only[List.mem_cons,List.not_mem_nil,or_false] at hv
   obtain rfl:=hv
   exact⟨hx,trivial,trivial⟩) rfl (by first|(simp only[List.map_cons,List.map_nil,G1K.p_den,G2K.p_den];rfl)|simp only[List.map_cons,List.map_nil,G1K.p_den,G2K.p_den])
  ·exact fn_outS (N:=9) (XD_ok [true,true]) GlobD.keep Tryz.func26 [] (fun s hs=>by cases hs) (G1K.noSS hG) (args:=[.agg [.nums 12 x,.nm (.bl b)]]) (q:=[]) (v:=(.bl true)) (obs:=[2≤10000,qb true ((if onB G1K.K1 (G1K.K1.F.int 4) (ptv G1K.K1 (ptW G1K.K1 (negP G1K.K1.F (ptv G1K.K1 x b))) (ptB (negP G1K.K1.F (ptv G1K.K1 x b))))=true then (0:Int) else 120)=0),qb true (ptW G1K.K1 (phA (ptv G1K.K1 x b))=ptW G1K.K1 (mulO G1K.K1 (G1K.K1.F.int 4) (num [4294967296,12413508272118670338]).toNat (ptv G1K.K1 (ptW G1K.K1 (negP G1K.K1.F (ptv G1K.K1 x b))) (ptB (negP G1K.K1.F (ptv G1K.K1 x b)))))∧ptB (phA (ptv G1K.K1 x b))=ptB (mulO G1K.K1 (G1K.K1.F.int 4) (num [4294967296,12413508272118670338]).toNat (ptv G1K.K1 (ptW G1K.K1 (negP G1K.K1.F (ptv G1K.K1 x b))) (ptB (negP G1K.K1.F (ptv G1K.K1 x b))))))]) 1 (by kernel_rfl) (hp (by decide) (hp (if_pos (im_on G1K.K1 ho)) (hp (by rw[show (num [4294967296,12413508272118670338]).toNat=xN*xN from q1_num];exact (in_sm G1K.K1 iff1 ho).1 hi) trivial))) (fun v hv=>by
   simp only[List.mem_cons,List.not_mem_nil,or_false] at hv
   obtain rfl:=hv
   exact⟨hx,trivial,trivial⟩) rfl (by first|(simp only[List.map_cons,List.map_nil,G1K.p_den,G2K.p_den];rfl)|simp only[List.map_cons,List.map_nil,G1K.p_den,G2K.p_den]))
set_option maxRecDepth 100000 in
theorem lIn2:ConG Tryz.prog GlobD 27 [.p 24] G2K.Pre0 (G2K.o1 fun x b=>.bl (inB G2K.K2 G2K.bb rN (ptv G2K.K2 x b))):=G2K.con1 (fun x b n=>trivial) (fun x b gs=>rfl) (fun x hx b w hG=>by
 cases ho:onB G2K.K2 G2K.bb (ptv G2K.K2 x b)
 ·exact fn_outS (N:=9) (XD_ok [false]) GlobD.keep Tryz.func27 [] (fun s hs=>by cases hs) (G1K.noSS hG) (args:=[.agg [.nums 24 x,.nm (.bl b)]]) (q:=[]) (v:=(.bl false)) (obs:=[1≤10000,qb false ((if onB G2K.K2 G2K.bb (ptv G2K.K2 (ptW G2K.K2 (negP G2K.K2.F (ptv G2K.K2 x b))) (ptB (negP G2K.K2.F (ptv G2K.K2 x b))))=true then (0:Int) else 120)=0)]) 1 (by kernel_rfl) (hp (by decide) (hp (by rw[im_off G2K.K2 ho];exact (by decide:¬(120:Int)=0)) trivial)) (fun v hv=>by
   simp only[List.mem_cons,List.not_mem_nil,or_false] at hv
   obtain rfl:=hv
   exact⟨hx,trivial,trivial⟩) (congrArg Value.bool (inB_off G2K.K2 ho).symm) (by first|(simp only[List.map_cons,List.map_nil,G1K.p_den,G2K.p_den];rfl)|simp only[List.map_cons,List.map_nil,G1K.p_den,G2K.p_den])
 ·cases hi:inB G2K.K2 G2K.bb rN (ptv G2K.K2 x b)
  ·exact fn_outS (N:=9) (XD_ok [true,false]) GlobD.keep Tryz.func27 [] (fun s hs=>by cases hs) (G1K.noSS hG) (args:=[.agg [.nums 24 x,.nm (.bl b)]]) (q:=[]) (v:=(.bl false)) (obs:=[1≤10000,qb true ((if onB G2K.K2 G2K.bb (ptv G2K.K2 (ptW G2K.K2 (negP G2K.K2.F (ptv G2K.K2 x b))) (ptB (negP G2K.K2.F (ptv G2K.K2 x b))))=true then (0:Int) else 120)=0),qb false (ptW G2K.K2 (psA (ptv G2K.K2 x b))=ptW G2K.K2 (mulO G2K.K2 G2K.bb (num [15132376222941642752]).toNat (ptv G2K.K2 (ptW G2K.K2 (negP G2K.K2.F (ptv G2K.K2 x b))) (ptB (negP G2K.K2.F (ptv G2K.K2 x b)))))∧ptB (psA (ptv G2K.K2 x b))=ptB (mulO G2K.K2 G2K.bb (num [15132376222941642752]).toNat (ptv G2K.K2 (ptW G2K.K2 (negP G2K.K2.F (ptv G2K.K2 x b))) (ptB (negP G2K.K2.F (ptv G2K.K2 x b))))))]) 1 (by kernel_rfl) (hp (by decide) (hp (if_pos (im_on G2K.K2 ho)) (hp (by rw[show (num [15132376222941642752]).toNat=xN from q2_num];exact fun k=>Bool.false_ne_true (hi.symm.trans ((in_sm G2K.K2 iff2 ho).2 k))) trivial))) (fun v hv=>by
   simp only[List.mem_cons,List.not_mem_nil,or_false] at hv
   obtain rfl:=hv
   exact⟨hx,trivial,trivial⟩) rfl (by first|(simp only[List.map_cons,List.map_nil,G1K.p_den,G2K.p_den];rfl)|simp only[List.map_cons,List.map_nil,G1K.p_den,G2K.p_den])
  ·exact fn_outS (N:=9) (XD_ok [true,true]) GlobD.keep Tryz.func27 [] (fun s hs=>by cases hs) (G1K.noSS hG) (args:=[.agg [.nums 24 x,.nm (.bl b)]]) (q:=[]) (v:=(.bl true)) (obs:=[1≤10000,qb true ((if onB G2K.K2 G2K.bb (ptv G2K.K2 (ptW G2K.K2 (negP G2K.K2.F (ptv G2K.K2 x b))) (ptB (negP G2K.K2.F (ptv G2K.K2 x b))))=true then (0:Int) else 120)=0),qb true (ptW G2K.K2 (psA (ptv G2K.K2 x b))=ptW G2K.K2 (mulO G2K.K2 G2K.bb (num [15132376222941642752]).toNat (ptv G2K.K2 (ptW G2K.K2 (negP G2K.K2.F (ptv G2K.K2 x b))) (ptB (negP G2K.K2.F (ptv G2K.K2 x b)))))∧ptB (psA (ptv G2K.K2 x b))=ptB (mulO G2K.K2 G2K.bb (num [15132376222941642752]).toNat (ptv G2K.K2 (ptW G2K.K2 (negP G2K.K2.F (ptv G2K.K2 x b))) (ptB (negP G2K.K2.F (ptv G2K.K2 x b))))))]) 1 (by kernel_rfl) (hp (by decide) (hp (if_pos (im_on G2K.K2 ho)) (hp (by rw[show (num [15132376222941642752]).toNat=xN from q2_num];exact (in_sm G2K.K2 iff2 ho).1 hi) trivial))) (fun v hv=>by
   simp only[List.mem_cons,List.not_mem_nil,or_false] at hv
   obtain rfl:=hv
   exact⟨hx,trivial,trivial⟩) rfl (by first|(simp only[List.map_cons,List.map_nil,G1K.p_den,G2K.p_den];rfl)|simp only[List.map_cons,List.map_nil,G1K.p_den,G2K.p_den]))
end S14O
end Go.Proofs.YtfjiinaekcibhaaGreatDoor
