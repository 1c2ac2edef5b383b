/-
  Own text.
-/
import Derived.Test.YtjamcbjghffboaaGreatDoorMOrd
import Derived.Test.YtjamcbjghffboaaGreatDoorMEc
import Derived.Test.YtjamcbjghffboaaGreatDoorMPt
import Derived.Test.YtjamcbjghffboaaGreatDoorMCu
import Derived.Test.YtjamcbjghffboaaGreatDoorS7
import Derived.Test.YtjamcbjghffboaaGreatDoorFp2RefP
import Derived.Test.YtjamcbjghffboaaGreatDoorFrR1
import Derived.Test.YtjamcbjghffboaaGreatDoorSxR
import Derived.Test.YtjamcbjghffboaaGreatDoorSxW
set_option linter.unusedVariables false
set_option linter.unusedSectionVars false
set_option linter.unusedSimpArgs false
set_option maxRecDepth 100000
namespace Go.Proofs.YtjamcbjghffboaaGreatDoor
namespace SubM
set_option maxRecDepth 100000
open Go Ring Base Limb Fp Fp2 Ec Pts
section
variable {α:Type} (F:Go.Proofs.YtjamcbjghffboaaGreatDoor.Ec.Fd α) {b:α} {f:Pt α->Pt α} {A B C D:Pt α} {r k m n:Nat}
structure Im (b:α) (f:Pt α->Pt α):Prop where
 eq:∀{A B},EqP F A B->EqP F (f A) (f B)
 sum:∀{A B C},Sum F A B C->Sum F (f A) (f B) (f C)
 on:∀{A},OnP F b (f A)↔OnP F b A
 none:f none=none
theorem Im.of {e:α->α}(hm:Hm F F e){s:α}(hs:¬F.Z s)(hb:F.eq (F.mul (e b) (F.mul (F.mul (F.mul s s) s) (F.mul (F.mul s s) s))) b)(hf:∀A,EqP F (utP e F s A) (f A))(hn:f .none=.none):Im F b f where
 eq:=fun h=>eqP_trans F (eqP_symm F (hf _)) (eqP_trans F (ut_eq F hm s h) (hf _))
 sum:=fun h=>sum_eq F (hf _) (hf _) (hf _) (ut_sum F hm s hs h)
 on:=⟨fun h=>ut_of F hm s hs hb (onP_eq F (eqP_symm F (hf _)) h),fun h=>onP_eq F (hf _) (ut_on F hm s hb h)⟩
 none:=hn
variable [DecidablePred F.Z]
theorem tor_iff (a:OnP F b A):Mult F r A none↔ptB (mulP F r A)=true:=by
 have h1:=(mulP_mult F a r).1
 constructor
 ·intro h
  have:=mult_un F h h1
  rcases hm:mulP F r A with _|x
  ·rfl
  ·rw[hm] at this
   exact this.elim
 ·intro h
  rcases hm:mulP F r A with _|x
  ·rwa [hm] at h1
  ·rw[hm] at h
   cases h
end
def rN:Nat:=0x73eda753299d7d483339d80809a1d80553bda402fffe5bfeffffffff00000001
def xN:Nat:=15132376222941642752
instance decI:DecidablePred FI.Z:=fun a=>inferInstanceAs (Decidable (a%PP=0))
instance decG:DecidablePred FG.Z:=fun a=>inferInstanceAs (Decidable (a.1%PP=0/\a.2%PP=0))
def red1 (a:Int):Int:=a%PP
theorem hred1 (a:Int):FI.eq a (red1 a):=by
 show (a + -1*(a%PP))%PP=0
 have:=Int.emod_add_mul_ediv a PP
 rw[show a + -1*(a%PP)=PP*(a/PP) by omega]
 exact Int.mul_emod_right _ _
def red2 (a:G):G:=(a.1%PP,a.2%PP)
theorem hred2 (a:G):FG.eq a (red2 a):=by
 have h1:=hred1 a.1
 have h2:=hred1 a.2
 have e:FG.add a (FG.mul (FG.int (-1)) (red2 a))=(a.1 + -1*(a.1%PP),a.2 + -1*(a.2%PP)):=by
  show ga a (gm (-1,0) (red2 a))=_
  apply Prod.ext<;>simp[ga,gm,red2]
 show FG.Z _
 rw[e]
 exact⟨h1,h2⟩
theorem hm_id:Hm FI FI (fun a=>a):=⟨fun _ _=>rfl,fun _ _=>rfl,fun _=>rfl,fun _=>Iff.rfl⟩
theorem hm_gc:Hm FG FG gc where
 add:=fun a b=>by
  show gc (ga a b)=ga (gc a) (gc b)
  apply Prod.ext<;>simp[ga,gc,Int.neg_add]
 mul:=fun a b=>by
  show gc (gm a b)=gm (gc a) (gc b)
  apply Prod.ext<;>simp[gm,gc,Int.neg_add,Int.mul_neg,Int.neg_mul]
 int:=fun n=>rfl
 z:=fun a=>by
  show (a.1%PP=0/\a.2%PP=0)↔(a.1%PP=0/\(-a.2)%PP=0)
  exact⟨fun h=>⟨h.1,Int.emod_eq_zero_of_dvd (Int.dvd_neg.2 (Int.dvd_of_emod_eq_zero h.2))⟩,fun h=>⟨h.1,Int.emod_eq_zero_of_dvd (Int.dvd_neg.1 (Int.dvd_of_emod_eq_zero h.2))⟩⟩
def BW:List Int:=[3315212275698040830,16003497378645147650,15975298377956497032,13432485098755684330,6852621763331149393,0]
def XW:List Int:=[0,0,0,0,0,0,10087218740379822765,4653388206581612541,9907120269317136283,12253596935368579796,17006226088849104517,1873798617647539865]
def YW:List Int:=[17433006465011670690,3478017852528130570,17237919592439788638,2035044123721977696,16350815739277094105,1392179521213474446,14416168624775744521,17178867732698629620,8644499054833844677,5204293836692734814,7508032112903159806,481619096434065419]
def s1:Int:=0x1a0111ea397fe699ec02408663d4de85aa0d857d89759ad4897d29650fb85f9b409427eb4f49fffd8bfd00000000aaac
def s2:G:=(0x5b2cfd9013a5fd8df47fa6b48b1e045f39816240c0b8fee8beadf4d8e9c0566c63a3e6e257f87329b18fae980078116,0x5b2cfd9013a5fd8df47fa6b48b1e045f39816240c0b8fee8beadf4d8e9c0566c63a3e6e257f87329b18fae980078116)
def phA:Pt Int->Pt Int
 |none=>none
 |some (x,y)=>some (FI.mul x (num BW),y)
def psA:Pt G->Pt G
 |none=>none
 |some (x,y)=>some (FG.mul (gc x) (v2 XW),FG.mul (gc y) (v2 YW))
theorem ph_s:FI.eq (FI.mul s1 s1) (num BW)/\FI.eq (FI.mul (FI.mul s1 s1) s1) (FI.int 1):=by
 show FI.Z _/\FI.Z _
 decide +kernel
theorem ps_s:FG.eq (FG.mul s2 s2) (v2 XW)/\FG.eq (FG.mul (FG.mul s2 s2) s2) (v2 YW):=by
 show FG.Z _/\FG.Z _
 decide +kernel
theorem im_ph:Im FI 4 phA:=.of FI hm_id (s:=s1) (by decide +kernel) (by show FI.Z _;decide +kernel) (fun A=>by
 rcases A with _|⟨x,y⟩
 ·trivial
 ·refine⟨FI.mul_eq (FI.refl _) ph_s.1,?_⟩
  have:=FI.mul_eq (FI.refl y) ph_s.2
  rwa [show FI.mul y (FI.int 1)=y from Int.mul_one y] at this) rfl
theorem im_ps:Im FG (4,4) psA:=.of FG hm_gc (s:=s2) (by decide +kernel) (by show FG.Z _;decide +kernel) (fun A=>by
 rcases A with _|⟨x,y⟩
 ·trivial
 ·exact⟨FG.mul_eq (FG.refl _) ps_s.1,FG.mul_eq (FG.refl _) ps_s.2⟩) rfl
theorem hb1:¬FI.Z 4:=by decide +kernel
theorem hb2:¬FG.Z (4,4):=by decide +kernel
def x1:Int:=0x17f1d3a73197d7942695638c4fa9ac0fc3688c4f9774b905a14e3a3f171bac586c55e83ff97a1aeffb3af00adb22c6bb
def y1:Int:=0x8b3f481e3aaa0f1a09e30ed741d8ae4fcf5e095d5d00af600db18cb2c04b3edd03cc744a2888ae40caa232946c5e7e1
def x2:G:=(0x24aa2b2f08f0a91260805272dc51051c6e47ad4fa403b02b4510b647ae3d1770bac0326a805bbefd48056c8c121bdb8,0x13e02b6052719f607dacd3a088274f65596bd0d09920b61ab5da61bbdc7f5049334cf11213945d57e5ac7d055d042b7e)
def y2:G:=(0xce5d527727d6e118cc9cdc6da2e351aadfd9baa8cbdd3a76d429a695160d12c923ac9cc3baca289e193548608b82801,0x606c4a02ea734cc32acd2b02bc28b99cb3e287e85a763af267492ab572e99ab3f370d275cec1da1aaa9075ff05f79be)
theorem on1:OnP FI 4 (some (x1,y1)):=by
 show FI.Z _
 decide +kernel
theorem on2:OnP FG (4,4) (some (x2,y2)):=by
 show FG.Z _
 decide +kernel
theorem tor1:Mult FI rN (some (x1,y1)) none:=jn_nil FI hb1 hred1 on1 (f:=260) (by decide +kernel) (by decide +kernel) (by decide +kernel)
theorem tor2:Mult FG rN (some (x2,y2)) none:=jn_nil FG hb2 hred2 on2 (f:=260) (by decide +kernel) (by decide +kernel) (by decide +kernel)
def d1:Pt Int:=some (0x1333c91030ee7a4649e404c01b2e0d26a8728dd7cb4edb636ed984de104bb92674f1161d8c99bcf024e473fe0a1d7620,0x114d1d6855d545a8aa7d76c8cf2e21f267816aef1db507c96655b9d5caac42364e6f38ba0ecb751bad54dcd6b939c2ca)
def d2:Pt G:=some ((0x149ee6d25a1c8648c86f8673946935a6c41c801f2eb23fd9171fd41f31b7ec5c4a85f5b285f02508d928c716f9c1bc67,0x6e63a1561fa8259ba6f6e15257a5cd4ab79697e45abf5042aa7cf28b80aa054b18d535b71cf70dafd2b694040d19479),(0xfcf61319e51e41eed89a6b0ff12b4da6f664b92422160a52083df7086215506947457947cd8917791ac308465a849c6,0x14c164377443f5accb1eb0dfbb4910e98a49e53d8ef016c76df99c2649d3f49b1a3d8b6a55e5881f8ea0ecfdc3de9b2f))
theorem mu1:Mult FI (xN*xN) (some (x1,y1)) d1:=jn_at FI hb1 hred1 on1 (f:=130) (by decide +kernel) (by decide +kernel) (by decide +kernel) (by show FI.Z _;decide +kernel) (by show FI.Z _;decide +kernel)
theorem mu2:Mult FG xN (some (x2,y2)) d2:=jn_at FG hb2 hred2 on2 (f:=66) (by decide +kernel) (by decide +kernel) (by decide +kernel) (by show FG.Z _;decide +kernel) (by show FG.Z _;decide +kernel)
theorem ph1:EqP FI (phA (some (x1,y1))) (negP FI d1):=by
 show FI.Z _/\FI.Z _
 decide +kernel
theorem ps2:EqP FG (psA (some (x2,y2))) (negP FG d2):=by
 show FG.Z _/\FG.Z _
 decide +kernel
end SubM
namespace SubM
open Go Ring Base Limb Fp Fp2 Ec Pts
section
variable {α:Type} (K:Nk α) {c:α} {r:Nat} {A B:Pt α}
def inB (c:α)(r:Nat)(A:Pt α):Bool:=onB K c A&&ptB (mulP K.F r A)
theorem inB_iff:inB K c r A=true↔OnP K.F c A/\Mult K.F r A none:=by
 rw[inB,Bool.and_eq_true,onB_iff]
 exact⟨fun h=>⟨h.1,(tor_iff K.F h.1).2 h.2⟩,fun h=>⟨h.1,(tor_iff K.F h.1).1 h.2⟩⟩
theorem inB_off (h:onB K c A=false):inB K c r A=false:=by rw[inB,h,Bool.false_and]
theorem inB_on (h:onB K c A=true):inB K c r A=ptB (mulO K c r A):=by rw[inB,h,Bool.true_and,mulO,if_pos h]
theorem in_none:inB K c r none=true:=(inB_iff K).2 ⟨trivial,mult_none K.F r⟩
section
variable (hc:¬K.F.Z c)
include hc
end
variable {f:Pt α->Pt α} {D:Pt α} {m k:Nat}
end
end SubM
namespace S14D
open Go Go.RowKit Reg Base Limb Sx Fp Fp2 Ec Pts SubM
def rL:List Int:=[18446744069414584321,6034159408538082302,3691218898639771653,8353516859464449352]
theorem r_num:(num rL).toNat=rN:=by decide +kernel
theorem z1:List.replicate (G1K.K1.n+G1K.K1.n) (0:Int)=[0,0,0,0,0,0,0,0,0,0,0,0]:=rfl
theorem z2:List.replicate (G2K.K2.n+G2K.K2.n) (0:Int)=[0,0,0,0,0,0,0,0,0,0,0,0,0,0,0,0,0,0,0,0,0,0,0,0]:=rfl
theorem b1:ptv G1K.K1 S12R.BL false=some (x1,y1):=by
 have e1:G1K.K1.va (seg 0 G1K.K1.n S12R.BL)=x1:=by decide +kernel
 have e2:G1K.K1.va (seg G1K.K1.n G1K.K1.n S12R.BL)=y1:=by decide +kernel
 rw[ptv_f,e1,e2]
theorem b2:ptv G2K.K2 S13R.BL false=some (x2,y2):=by
 have e1:G2K.K2.va (seg 0 G2K.K2.n S13R.BL)=x2:=by decide +kernel
 have e2:G2K.K2.va (seg G2K.K2.n G2K.K2.n S13R.BL)=y2:=by decide +kernel
 rw[ptv_f,e1,e2]
theorem in1:inB G1K.K1 (G1K.K1.F.int 4) rN (ptv G1K.K1 S12R.BL false)=true:=(inB_iff G1K.K1).2 ⟨by rw[b1];exact on1,by rw[b1];exact tor1⟩
theorem in2:inB G2K.K2 G2K.bb rN (ptv G2K.K2 S13R.BL false)=true:=(inB_iff G2K.K2).2 ⟨by rw[b2];exact on2,by rw[b2];exact tor2⟩
theorem ph_w (x:List Int):wm G1K.K1 (seg 0 6 x) BW++wr G1K.K1 (seg 6 6 x)=ptW G1K.K1 (phA (ptv G1K.K1 x false)):=rfl
theorem ps_w (x:List Int):F2 (gm (v2 (F2 (gc (v2 (seg 0 12 x))))) (v2 XW))++F2 (gm (v2 (F2 (gc (v2 (seg 12 12 x))))) (v2 YW))=ptW G2K.K2 (psA (ptv G2K.K2 x false)):=by
 rw[F2_eq (gm_congr (v2_F2 (gc (v2 (seg 0 12 x)))) E2.rfl),F2_eq (gm_congr (v2_F2 (gc (v2 (seg 12 12 x)))) E2.rfl)]
 rfl
end S14D
namespace SubM
set_option maxRecDepth 100000
open Go Ring Base Limb Fp Fp2 Ec Pts Ab Num
section
variable {γ:Type} (E:Ab γ)
theorem nx_ng (x:γ)(n:Nat):E.nx n (E.neg x)=E.neg (E.nx n x):=E.neg_of (by rw[<-nx_sum,E.inv,nx_O])
theorem ng_ng (x:γ):E.neg (E.neg x)=x:=(E.neg_of (by rw[E.comm,E.inv])).symm
variable {φ:γ->γ} (hφ:∀x y,φ (E.add x y)=E.add (φ x) (φ y)) {r m:Nat}
include hφ
theorem phi_ng (x:γ):φ (E.neg x)=E.neg (φ x):=E.neg_of (by rw[<-hφ,E.inv,phi_O E hφ])
theorem phi_two {x:γ}(h:φ x=E.nx m (E.neg x)):φ (φ x)=E.nx (m*m) x:=by
 rw[h,phi_nx E hφ,phi_ng E hφ,h,nx_ng,nx_ng,nx_ng,ng_ng,nx_mul]
theorem kill {x:γ}(h3:E.add (E.add (φ (φ x)) (φ x)) x=E.O)(h:φ x=E.nx m (E.neg x))(hr:r+m=m*m+1):E.nx r x=E.O:=by
 rw[phi_two E hφ h,h,nx_ng] at h3
 have e:E.add (E.nx (m*m) x) x=E.nx m x:=by
  have e1:E.add (E.neg (E.nx m x)) (E.add (E.nx (m*m) x) x)=E.O:=by
   rw[<-E.assoc,E.comm (E.neg _),h3]
  exact (E.neg_of e1).trans (ng_ng E _)
 have e2:E.add (E.nx r x) (E.nx m x)=E.nx m x:=by
  rw[<-nx_add,hr,nx_add,nx_one,e]
 exact E.cancel (x:=E.nx m x) (by rw[E.comm,e2,E.zero])
theorem tors_im {P B:γ}(ht:∀x,E.nx r x=E.O->∃k,x=E.nx k P)(hr:Pr r)(hP:E.nx r P=E.O)(hB:E.nx r B=E.O)(hne:B≠E.O)(h:φ B=E.nx m (E.neg B)){x:γ}(hx:E.nx r x=E.O):φ x=E.nx m (E.neg x):=by
 have d1:∀k,E.add (φ (E.nx k P)) (E.nx m (E.nx k P))=E.nx k (E.add (φ P) (E.nx m P)):=fun k=>by
  rw[nx_sum,phi_nx E hφ,nx_comm E m k]
 have d2:E.add (φ B) (E.nx m B)=E.O:=by rw[h,<-nx_sum,E.comm,E.inv,nx_O]
 have d3:E.add (φ P) (E.nx m P)=E.O:=by
  obtain⟨k,hk⟩:=ht B hB
  have e1:E.nx k (E.add (φ P) (E.nx m P))=E.O:=by rw[<-d1,<-hk,d2]
  have e2:E.nx r (E.add (φ P) (E.nx m P))=E.O:=by
   rw[nx_sum,<-phi_nx E hφ,hP,phi_O E hφ,nx_comm E m r,hP,nx_O,E.zero]
  have hk':¬r ∣ k:=fun hd=>hne (hk.trans (nx_dvd E hd hP))
  have e3:=nx_gcd E _ _ e1 e2
  rwa [show Nat.gcd k r=1 from hr.coprime hk',nx_one] at e3
 obtain⟨j,rfl⟩:=ht x hx
 have e:=d1 j
 rw[d3,nx_O] at e
 rw[nx_ng]
 exact E.neg_of (by rw[E.comm,e])
end
section
variable {α:Type} (F:Go.Proofs.YtjamcbjghffboaaGreatDoor.Ec.Fd α) {b:α} {f:Pt α->Pt α} {A B C D:Pt α} {r k m n:Nat} [DecidablePred F.Z]
def imG (h:Im F b f)(x:EG F b):EG F b:=Quotient.liftOn x (fun A=>mk F (f A.1) (h.on.2 A.2)) (fun A A' e=>mk_eq F (h.eq e))
theorem im_mk (h:Im F b f){a:OnP F b A}:imG F h (mk F A a)=mk F (f A) (h.on.2 a):=rfl
theorem imG_add (hb:¬F.Z b)(h:Im F b f)(x y:EG F b):imG F h ((gp F hb).add x y)=(gp F hb).add (imG F h x) (imG F h y):=by
 obtain⟨A,a,rfl⟩:=mk_ex F x
 obtain⟨B,e,rfl⟩:=mk_ex F y
 obtain⟨D,hD,d⟩:=sum_ex F a e
 show imG F h (addG F (mk F A a) (mk F B e))=addG F (imG F h (mk F A a)) (imG F h (mk F B e))
 rw[add_mk F (c:=d) hD,im_mk,im_mk,im_mk,add_mk F (c:=h.on.2 d) (h.sum hD)]
theorem tor_nx (hb:¬F.Z b)(a:OnP F b A):Mult F n A none↔(gp F hb).nx n (mk F A a)=(gp F hb).O:=by
 constructor
 ·intro h
  exact nx_mk F hb (C:=none) (c:=(trivial:OnP F b none)) h
 ·intro h
  obtain⟨C,hC,c⟩:=mult_ex F n a
  have e:=(nx_mk F hb (a:=a) (c:=c) hC).symm.trans h
  exact mult_eq F (eqP_refl F A) (eq_mk F (k:=(trivial:OnP F b none)) e) hC
theorem mul_nx (hb:¬F.Z b)(a:OnP F b A)(m:Nat):(gp F hb).nx m (mk F A a)=mk F (mulP F m A) (mulP_mult F a m).2:=nx_mk F hb (mulP_mult F a m).1
theorem im_nx (hb:¬F.Z b)(h:Im F b f)(a:OnP F b A):EqP F (f A) (mulP F m (negP F A))↔imG F h (mk F A a)=(gp F hb).nx m ((gp F hb).neg (mk F A a)):=by
 have e:(gp F hb).nx m ((gp F hb).neg (mk F A a))=mk F (mulP F m (negP F A)) (mulP_mult F (onP_neg F a) m).2:=mul_nx F hb (onP_neg F a) m
 rw[e,im_mk]
 exact⟨fun h=>mk_eq F h,fun h=>eq_mk F h⟩
end
section
variable {α:Type} (K:Nk α) {c:α} {r m:Nat} {f:Pt α->Pt α} {A:Pt α}
theorem sm_eq {A B:Pt α}(h:Sm K A B):EqP K.F A B:=by
 have e:=eqP_symm K.F (ptv_out K A)
 rw[h.1,h.2] at e
 exact eqP_trans K.F e (ptv_out K B)
theorem in_sm (hi:∀{A:Pt α},OnP K.F c A->(Mult K.F r A none↔EqP K.F (f A) (mulP K.F m (negP K.F A))))(h:onB K c A=true):inB K c r A=true↔Sm K (f A) (mulO K c m (vo K (negP K.F A))):=by
 have a:=(onB_iff K).1 h
 have an:onB K c (vo K (negP K.F A))=true:=(on_v K _).trans ((onB_iff K).2 (onP_neg K.F a))
 have e:EqP K.F (mulO K c m (vo K (negP K.F A))) (mulP K.F m (negP K.F A)):=by
  rw[mulO,if_pos an]
  exact mulP_eq K (ptv_out K _) m
 rw[inB_iff]
 constructor
 ·intro k
  exact sm K (eqP_trans K.F ((hi a).1 k.2) (eqP_symm K.F e))
 ·intro k
  exact⟨a,(hi a).2 (eqP_trans K.F (sm_eq K k) e)⟩
theorem im_on (h:onB K c A=true):onB K c (vo K (negP K.F A))=true:=(on_v K _).trans ((onB_iff K).2 (onP_neg K.F ((onB_iff K).1 h)))
theorem im_off (h:onB K c A=false):onB K c (vo K (negP K.F A))=false:=by
 rw[on_v,Bool.eq_false_iff]
 intro k
 have k1:=onP_neg K.F ((onB_iff K).1 k)
 have k2:=(onB_iff K).2 (onP_eq K.F (neg_neg K A) k1)
 rw[h] at k2
 cases k2
end
theorem pr_rN:Pr rN:=pr_r
theorem ht1:FI.Z (FI.add (FI.add (FI.mul (num BW) (num BW)) (num BW)) (FI.int 1)):=by decide +kernel
theorem ph_g (x:EG FI 4):imG FI im_ph x=phG FI ht1 x:=by
 obtain⟨A,a,rfl⟩:=mk_ex FI x
 rw[im_mk,ph_mk]
 refine mk_eq FI ?_
 rcases A with _|⟨x,y⟩
 ·trivial
 ·refine⟨?_,FI.refl y⟩
  show FI.eq (FI.mul x (num BW)) (FI.mul (num BW) x)
  rw[FI.mul_comm]
  exact FI.refl _
def cc:G:=(0x1a0111ea397fe699ec02408663d4de85aa0d857d89759ad4897d29650fb85f9b409427eb4f49fffd8bfd00000000aaac,0)
theorem ht2:FG.Z (FG.add (FG.add (FG.mul cc cc) cc) (FG.int 1)):=by
 show _/\_
 decide +kernel
theorem hc2:FG.eq (gm (gc (v2 XW)) (v2 XW)) cc/\FG.eq (gm (gc (v2 YW)) (v2 YW)) (FG.int (-1)):=by
 show FG.Z _/\FG.Z _
 decide +kernel
theorem gcc (x c:G):gm (gc (gm (gc x) c)) c=gm x (gm (gc c) c):=by
 have e1:gc (gm (gc x) c)=gm (gc (gc x)) (gc c):=hm_gc.mul _ _
 have e2:gc (gc x)=x:=by
  apply Prod.ext<;>simp[gc]
 rw[e1,e2]
 exact FG.mul_assoc _ _ _
theorem ps_two (x:EG FG (4,4)):imG FG im_ps (imG FG im_ps x)=(gp FG hb2).neg (phG FG ht2 x):=by
 obtain⟨A,a,rfl⟩:=mk_ex FG x
 rw[im_mk,im_mk,ph_mk]
 refine mk_eq FG ?_
 rcases A with _|⟨x,y⟩
 ·trivial
 ·refine⟨?_,?_⟩
  ·show FG.eq (gm (gc (gm (gc x) (v2 XW))) (v2 XW)) (FG.mul cc x)
   rw[gcc,FG.mul_comm]
   exact FG.mul_eq (FG.refl x) hc2.1
  ·show FG.eq (gm (gc (gm (gc y) (v2 YW))) (v2 YW)) (FG.sub (FG.int 0) y)
   rw[gcc]
   have e:FG.mul y (FG.int (-1))=FG.sub (FG.int 0) y:=FG.eq_of (fun _=>y) (e:=.m (.v 0) (.n (-1))) (f:=.s (.n 0) (.v 0)) rfl rfl (by decide)
   rw[<-e]
   exact FG.mul_eq (FG.refl y) hc2.2
theorem r_x:rN+xN*xN=xN*xN*(xN*xN)+1:=by decide +kernel
theorem base_im {α:Type}(F:Go.Proofs.YtjamcbjghffboaaGreatDoor.Ec.Fd α)[DecidablePred F.Z]{b:α}{f:Pt α->Pt α}{B D:Pt α}{m:Nat}(hb:¬F.Z b)(h:Im F b f)(a:OnP F b B)(hD:Mult F m B D)(hf:EqP F (f B) (negP F D)):imG F h (mk F B a)=(gp F hb).nx m ((gp F hb).neg (mk F B a)):=by
 refine (im_nx F hb h a).1 (eqP_trans F hf ?_)
 exact mult_un F (mult_neg F hD) (mulP_mult F (onP_neg F a) m).1
theorem base_ne {α:Type}(F:Go.Proofs.YtjamcbjghffboaaGreatDoor.Ec.Fd α)[DecidablePred F.Z]{b:α}{x:α×α}(a:OnP F b (some x))(hb:¬F.Z b):mk F (some x) a≠(gp F hb).O:=fun h=>eq_mk F (A:=some x) (B:=none) (h:=a) (k:=(trivial:OnP F b none)) h
theorem kr {γ:Type}(E:Ab γ){r a n:Nat}{x:γ}(h:E.nx n x=E.O)(e:r*a=n):E.nx r (E.nx a x)=E.O:=by rw[<-nx_mul,e,h]
theorem iff1 {A:Pt Int}(a:OnP FI 4 A):Mult FI rN A none↔EqP FI (phA A) (mulP FI (xN*xN) (negP FI A)):=by
 rw[tor_nx FI hb1 a,im_nx FI hb1 im_ph a]
 constructor
 ·exact tors_im (gp FI hb1) (imG_add FI hb1 im_ph) (fun x h=>Ord1.of_r h) pr_rN (kr _ Ord1.hP (by decide +kernel)) ((tor_nx FI hb1 on1).1 tor1) (base_ne FI on1 hb1) (base_im FI hb1 im_ph on1 mu1 ph1)
 ·intro h
  exact kill (gp FI hb1) (imG_add FI hb1 im_ph) (by rw[ph_g,ph_g];exact phG_three FI hb1 ht1 _) h r_x
theorem iff2 {A:Pt G}(a:OnP FG (4,4) A):Mult FG rN A none↔EqP FG (psA A) (mulP FG xN (negP FG A)):=by
 rw[tor_nx FG hb2 a,im_nx FG hb2 im_ps a]
 constructor
 ·exact tors_im (gp FG hb2) (imG_add FG hb2 im_ps) (fun x h=>Ord2.of_r h) pr_rN (kr _ Ord2.hP (by decide +kernel)) ((tor_nx FG hb2 on2).1 tor2) (base_ne FG on2 hb2) (base_im FG hb2 im_ps on2 mu2 ps2)
 ·intro h
  have e:=phi_two (gp FG hb2) (imG_add FG hb2 im_ps) h
  rw[ps_two] at e
  have e2:phG FG ht2 (mk FG A a)=(gp FG hb2).nx (xN*xN) ((gp FG hb2).neg (mk FG A a)):=by
   rw[nx_ng,<-e,ng_ng]
  exact kill (gp FG hb2) (phG_add FG hb2 ht2) (phG_three FG hb2 ht2 _) e2 r_x
end SubM
namespace S14R
open Go Go.RowKit Reg Base Limb Sx Fp Fp2 Ec Pts SubM S14D SxR SxV
def oWS (f:List Int->Nat->AV):List AA->AV
 |[.w a,.sl _ l]=>f a (Limb.num l).toNat
 |_=>.unk
theorem qPow:ConG Tryz.prog GlobD 45 [.w 12,.sl] G1K.Pre0 (oWS fun a m=>.agg [.nums 12 (F2 (gp (v2 a) m))]):=by
 intro l hl _
 match l,hl with
 |[.w a,.sl n l],⟨ha,⟨hn,hl,hw⟩,_⟩=>
  refine⟨fun n=>⟨.F2 _,trivial⟩,fun _=>rfl,fun w hG vs hv=>?_⟩
  match vs,hv with
  |[v,u],⟨hv,hu,_⟩=>
   obtain rfl:=hv
   obtain⟨A,c,rfl,B,hB,hr⟩:=hu
   have h:=refPowS a ha A n c l B w hr hw hB hn hG
   rw[oWS,den_nums]
   exact h
def entL (l:List Int):Ent3:=fun b0 _ args=>match args with
 |[]=>some (.slc b0 0 6 6,(22,[.nums 6 l]),[])
 |_=>none
theorem eok_list {F:FuncId}{fn:Func}{l:List Int}(hf:Tryz.prog.funcs[F]? = some fn)(hb:fn.body.isNone=false)(hn:(fn.name == "runtime.NumGoroutine")=false)(hl:Nm 6 l)(hc:∀w,Calls Tryz.prog F #[] w fun e w'=>e=.returned (.slice (some ⟨w.heap.size,0,none⟩) 6 6)/\Has w' w.heap.size 22 (vals .u64 l)/\RowKit.Below w.heap.size w w'):EOk3 Tryz.prog GlobD F (entL l):=by
 refine⟨enter_of hf hb hn,fun bl args v t r ps gs he hH ho w hG hB=>?_⟩
 unfold entL at he
 split at he
 ·injection he with he
  injection he with e1 e2
  injection e2 with e2 e3
  injection e2 with e2 e4
  subst e1 e2 e4
  refine⟨⟨hl,trivial⟩,Nat.lt_succ_self _,?_⟩
  refine (hc w).mono fun e w' ⟨e1,e2,e3⟩=>⟨w.heap.size,Nat.le_refl _,?_,?_,e3⟩
  ·have:(den [.nums 6 l]).toArray=vals .u64 l:=by simp[den,Sg.den,vals]
   rw[this]
   exact e2
  ·rw[e1,AV.den,getD_new]
 ·cases he
def L0:List (Fact Tryz.prog GlobD):=G1K.rMul.fact (.con Tryz.func81 rfl (by decide) G1K.rMul) ::
 G1K.rReduce.fact (.con Tryz.func83 rfl (by decide) G1K.rReduce) ::
 S7.qMul.fact (.con Tryz.func47 rfl (by decide) S7.qMul) ::
 S7.qConj.fact (.con Tryz.func48 rfl (by decide) S7.qConj) ::
 S7.qInv.fact (.con Tryz.func79 rfl (by decide) S7.qInv) ::
 []
def T0:List (FuncId×Ent2):=[(49,entG [.sl,.p 12] G1K.Pre0 (S12R.oM S12R.mulA)),(51,entG [.sl,.p 24] G2K.Pre0 (S13R.oM S13R.mulA)),(45,entG [.w 12,.sl] G1K.Pre0 (oWS fun a m=>.agg [.nums 12 (F2 (gp (v2 a) m))]))]
theorem T0_ok:TOk2 Tryz.prog GlobD T0:=⟨.conG Tryz.func49 rfl (by decide) S12R.qMul,.conG Tryz.func51 rfl (by decide) S13R.qMul,.conG Tryz.func45 rfl (by decide) qPow,trivial⟩
def L1:List (Fact Tryz.prog GlobD):=L0
def X1:Cx:=((Cx.of [(24,6),(26,12)] (tb L1)).eqs [(35,12),(37,24)]).more T0
theorem X1_ok:CxOk Tryz.prog X1 GlobD:=((cx_ok (E:=[(24,6),(26,12)]) L1 ⟨⟨G1K.eqF,G1K.gdF⟩,⟨G2K.eqF,G2K.gdF⟩,trivial⟩ (by kernel_rfl)).eqs (EM:=[(35,12),(37,24)]) ⟨⟨G1K.eqG,G1K.gdG⟩,⟨G2K.eqG,G2K.gdG⟩,trivial⟩).more T0_ok
theorem calls_opq1 {P:Program}{g:FuncId}{fn:Func}{c0 R:Code}{args:Array Value}{w:World}{Q:Ending->World->Prop}(K:Act->World->Prop)(hf:P.funcs[g]? = some fn)(hb:fn.body=some (.seq c0 R))
  (hR:∀a x,K a x->R.wp P (bodyPost P fn Q) a x) (h:∀R',(∀a x,K a x->R'.wp P (bodyPost P fn Q) a x)->(Code.seq c0 R').wp P (bodyPost P fn Q) { tmps:=args++Array.replicate (fn.ntmps-args.size) undef,defers:=[] } w):Calls P g args w Q:=
 calls_of_wp hf hb (h R hR)
noncomputable def OP1:Array Oper:=(rg (rsN 1 (bodyOf Tryz.f25))).toArray
noncomputable def L1x:Array Bool:=stm (Array.replicate OP1.size false) 1
def sA1 (A:Option Addr)(c:Nat)(x:List Int)(b:Bool):List AV:=mkSl 17 [(6,.ext A 4 c FrR.mL),(7,.agg [.nums 12 x,.nm (.bl b)])]
def sC1 (x:List Int)(b:Bool):List AV:=mkSl 17 [(3,.ptr 0 0),(4,.num .i64 (if onB G1K.K1 (G1K.K1.F.int 4) (ptv G1K.K1 x b)=true then (0:Int) else 120))]
def bC1 (x:List Int)(b:Bool):List Bk:=[(35,[.nums 12 (ptW G1K.K1 (mulO G1K.K1 (G1K.K1.F.int 4) (Limb.num FrR.mL).toNat (ptv G1K.K1 x b))),.nm (.bl (ptB (mulO G1K.K1 (G1K.K1.F.int 4) (Limb.num FrR.mL).toNat (ptv G1K.K1 x b))))])]
def ptA1 (x:List Int)(b:Bool):Array Value:=vals .u64 (ptW G1K.K1 (mulO G1K.K1 (G1K.K1.F.int 4) (Limb.num FrR.mL).toNat (ptv G1K.K1 x b))) ++ #[.bool (ptB (mulO G1K.K1 (G1K.K1.F.int 4) (Limb.num FrR.mL).toNat (ptv G1K.K1 x b)))]
instance (x:List Int) (b:Bool):Cz 13 (ptA1 x b):=⟨by simp[ptA1,vals_size,(nm_ptW G1K.K1 _).len];rfl,by simp[ptA1,vals,Value.oneCell']⟩
theorem mulc1 (x:List Int)(hx:Nm 12 x)(b:Bool)(A:Option Addr)(c B:Nat)(w:World)(hG:GlobD w)(hr:Rd w B A 4 .u64 FrR.mL)(hB:B<=w.heap.size):Calls Tryz.prog 49 #[.slice A 4 c,.agg (vals .u64 x ++ #[.bool b])] w fun e w'=>e=.returned (.tuple #[.agg (ptA1 x b),.int .i64 (if onB G1K.K1 (G1K.K1.F.int 4) (ptv G1K.K1 x b)=true then (0:Int) else 120)])/\RowKit.Below w.heap.size w w':=by
 have h:=(S12R.qMul [.sl 4 FrR.mL,.p x b] ⟨⟨by decide,rfl,FrR.mL_words⟩,hx,trivial⟩ trivial).2.2 w hG [Value.slice A 4 c,Value.agg (vals .u64 x ++ #[Value.bool b])] ⟨⟨A,c,rfl,B,hB,hr⟩,rfl,trivial⟩
 rwa [show (S12R.oM S12R.mulA [.sl 4 FrR.mL,.p x b]).den []=.tuple #[.agg (ptA1 x b),.int .i64 (if onB G1K.K1 (G1K.K1.F.int 4) (ptv G1K.K1 x b)=true then (0:Int) else 120)] by simp[S12R.oM,S12R.mulA,AV.den,TV.den,den,Sg.den,NV.den,ptA1,vals]] at h
instance:Agg Tryz.prog 35 13:=.of Tryz.underlying35 (by kernel_rfl) rfl
set_option maxHeartbeats 2000000 in
theorem rest1 {x:List Int}(hx:Nm 12 x){b:Bool}{q:List Bool}{V:Bool}{O:Option Addr->Nat->List Ob}{O2:List Ob}
  (e0:∀A c B,evalX Tryz.prog (X1.sym (DS [(A,4,FrR.mL,B)]) []) 0 9 OP1 (stm L1x 0) 7 (rsN 2 (bodyOf Tryz.f25)) Tryz.f25.results.toList (sA1 A c x b) [] q=some ([.val (.bool V)],O A B))
  (e2:evalR Tryz.prog X1 1 9 (rsN 2 (bodyOf Tryz.f25)) Tryz.f25.results.toList (sC1 x b) (bC1 x b) q=some ([.val (.bool V)],O2)) (hO2:Holds O2)
  (hO:∀A B,DS [(A,4,FrR.mL,B)] A 4 FrR.mL->Holds (O A B)) {act:Act} {y0:World} {g0:Nat} (hG0:GlobD y0) (h1:act.tmps.size=17) (ht:act.tmps[1]? = some (.pointer (some ⟨g0,0,none⟩))) (hd:act.defers=[]) (q1:Has y0 g0 35 (vals .u64 x ++ #[.bool b])) {Q:Ending->World->Prop} (hQ:∀x',RowKit.Below y0.heap.size y0 x'->Q (.returned (.bool V)) x') :
  (rsN 1 (bodyOf Tryz.f25)).wp Tryz.prog (bodyPost Tryz.prog Tryz.f25 Q) act y0:=by
 have hcz:Cz 13 (vals .u64 x ++ #[.bool b]):=⟨by simp[vals_size,hx.len],by simp[vals,Value.oneCell']⟩
 have hc:rsN 1 (bodyOf Tryz.f25)=.seq (.region 1 OP1 true) (rsN 2 (bodyOf Tryz.f25)):=by kernel_rfl
 have hb0:RowKit.Below y0.heap.size y0 y0.drew:=⟨rfl,rfl,rfl,Nat.le_refl _,fun _ _=>rfl⟩
 rw[hc]
 refine wp_seq ?_
 refine wp_regionU (S:=fun u=>RowKit.Below y0.drew.heap.size y0.drew u) (by kernel_rfl) ?_
 have hsel:Region.noSelect OP1=true:=by kernel_rfl
 suffices key:∀k,k=7+1+1->wpAnyU Tryz.prog .any OP1 (Exit.then (fun a x=>(rsN 2 (bodyOf Tryz.f25)).wp Tryz.prog (bodyPost Tryz.prog Tryz.f25 Q) a x) (bodyPost Tryz.prog Tryz.f25 Q)) (fun u=>RowKit.Below y0.drew.heap.size y0.drew u) k (Array.replicate OP1.size false) act y0.drew from key _ (by kernel_rfl)
 intro k hk
 subst hk
 have hS:∀u v:World,RowKit.Below y0.drew.heap.size y0.drew u->RowKit.Below u.heap.size u v->RowKit.Below y0.drew.heap.size y0.drew v:=fun u v h h'=>h.trans (h'.mono h.size)
 refine wpAnyU_take (i:=1) (oi:=(opAt OP1 1)) hS (by kernel_rfl) hsel (by kernel_rfl) (by kernel_rfl) (post_panic _) (RowKit.Below.refl _ _) (st_load (g:=g0) (t:=35) (ty:=35) (n:=13) (cs:=(vals .u64 x ++ #[.bool b])) (fun u hu=>(q1.keep hb0).keep hu) (by kernel_rfl) (p:=.tmp 1) (by kernel_rfl) (eval_of ht)) ?_
 rw[show (opAt OP1 1).dst=some 7 from (by kernel_rfl)]
 obtain⟨a1,ha1⟩:∃a1,a1=act.put (some 7) (.agg (vals .u64 x ++ #[.bool b])):=⟨_,rfl⟩
 rw[<-ha1]
 have z1:a1.tmps.size=17:=by rw[ha1,Act.size_put,h1]
 have f7:a1.tmps[7]? = some (.agg (vals .u64 x ++ #[.bool b])):=by rw[ha1];exact put_eq (by rw[h1];decide)
 have d1:a1.defers=[]:=by rw[ha1];exact put_defers.trans hd
 clear ha1 ht hd h1
 have hR1:∀u:World,Calls Tryz.prog 50 #[] u fun e w'=>∃v,e=.returned v/\∃A c,v=.slice A 4 c/\Own w' u.heap.size 22 .u64 A 4 c FrR.mL/\RowKit.Below u.heap.size u w':=fun u=>(FrR.refR1_c u).mono fun e w' h=>by
  obtain⟨A,c,h1,h2,h3⟩:=h
  exact⟨_,h1,A,c,rfl,h2,h3⟩
 have fq:∀(w1:World),RowKit.Below y0.drew.heap.size y0.drew w1->∀v∈[AV.val (.bool V)],∀x',RowKit.Below w1.heap.size w1 x'->∀gs':List Nat,Q (.returned (v.den gs')) x':=fun w1 hw v hv x' hx' gs'=>by
  obtain rfl:=List.mem_singleton.1 hv
  exact hQ x' (hb0.trans (hw.trans (hx'.mono hw.size)))
 have fG:∀(A:Option Addr) (w1:World),RowKit.Below y0.drew.heap.size y0.drew w1->Rd w1 w1.heap.size A 4 .u64 FrR.mL->∀u,RowKit.Below w1.heap.size w1 u->GS GlobD [(A,4,FrR.mL,w1.heap.size)] u:=fun A w1 hw hr u hu=>GS.keep (fun h k=>h.keep k) ⟨(hG0.keep hb0).keep hw,fun s hs=>by
  obtain rfl:=List.mem_singleton.1 hs
  exact⟨Nat.le_refl _,hr⟩⟩ hu
 have fC:∀(A:Option Addr) (B:Nat),CxB Tryz.prog (X1.sym (DS [(A,4,FrR.mL,B)]) []) (GS GlobD [(A,4,FrR.mL,B)]):=fun A B=>X1_ok.toCxB.sym (fun u hu=>hu.1) (DS_ok fun s hs=>by obtain rfl:=List.mem_singleton.1 hs;exact FrR.mL_words) []
 have fD:∀(A:Option Addr) (B:Nat),DS [(A,4,FrR.mL,B)] A 4 FrR.mL:=fun A B=>⟨B,by simp⟩
 change wpAnyU _ _ _ _ _ _ L1x a1 _
 have hr0:Region.ready .any OP1 L1x=[0,6]:=by kernel_rfl
 have hr6:Region.ready .any OP1 (stm L1x 6)=[0]:=by kernel_rfl
 refine⟨by rw[hr0];simp,fun r hr u hu=>?_⟩
 rw[hr0] at hr
 have hr':r=0∨r=6:=by simpa using hr
 rcases hr' with rfl|rfl
 ·refine call_run (o:=opAt OP1 0) (d:=6) (by kernel_rfl) (by kernel_rfl) (by kernel_rfl) (by kernel_rfl) (enter_of Tryz.func50 rfl (by decide)) (hR1 u) ?_
  rintro v w1 ⟨A,c,rfl,how,hbw⟩
  have hrd:=(Frs.of_own how).rd
  have hw1:=hS _ _ hu hbw
  refine⟨hw1,wpAnyU_weaken (S':=fun z=>Sst w1.heap.size w1 OP1 [] (sA1 A c x b) [] z/\w1.heap.size<=z.heap.size) (fun z hz=>hw1.trans (hz.1.1.mono hw1.size)) ?_⟩
  refine rest_any (fC A w1.heap.size) rfl (fG A w1 hw1 hrd) hsel (by kernel_rfl) (e0 A c w1.heap.size) (hO A _ (fD A _)) (mkSl_ok (by rw[Act.size_put,z1]) fun p hp=>?_) (mkSl_sok fun p hp=>?_) (Nat.le_refl _) (wd_of (gs:=[]) (bs:=[]) rfl fun k t r hk=>by simp at hk) (put_defers.trans d1) (fq w1 hw1)
  ·simp only[List.mem_cons,List.not_mem_nil,or_false] at hp
   rcases hp with rfl|rfl
   ·exact put_eq (by rw[z1];decide)
   ·exact (put_ne (d:=6) (k:=7) (by decide)).trans (f7.trans (congrArg some G1K.p_den.symm))
  ·simp only[List.mem_cons,List.not_mem_nil,or_false] at hp
   rcases hp with rfl|rfl
   ·trivial
   ·exact⟨hx,trivial,trivial⟩
 ·have hal:AllocAt Tryz.prog OP1 6 3 35 (vals .u64 (List.replicate 12 0) ++ #[.bool false]):=⟨⟨(opAt OP1 6),(by kernel_rfl),(by kernel_rfl),(by kernel_rfl),(by kernel_rfl)⟩,_,_,rfl,rfl,(by kernel_rfl)⟩
  have hu1:=hS _ _ hu ((RowKit.Below.refl u.heap.size u).alloc (Nat.le_refl _) (.cells (vals .u64 (List.replicate 12 0) ++ #[.bool false]) 35))
  refine hal.run ⟨hu1,?_⟩
  have hg:Has (u.alloc (.cells (vals .u64 (List.replicate 12 0) ++ #[.bool false]) 35)) u.heap.size 35 (vals .u64 (List.replicate 12 0) ++ #[.bool false]):=Has.new _ _ _
  obtain⟨u1,hue⟩:∃u1,u1=u.alloc (.cells (vals .u64 (List.replicate 12 0) ++ #[.bool false]) 35):=⟨_,rfl⟩
  obtain⟨g,hge⟩:∃g,g=u.heap.size:=⟨_,rfl⟩
  rw[<-hue] at hg hu1 ⊢
  rw[<-hge] at hg ⊢
  have hgs:y0.drew.heap.size<=g:=by rw[hge];exact hu.size
  clear hue hge
  change wpAnyU _ _ _ _ _ _ (stm L1x 6) _ _
  refine⟨by rw[hr6];simp,fun r hr u2 hu2=>?_⟩
  rw[hr6] at hr
  obtain rfl:=List.mem_singleton.1 hr
  have hu3:=hS _ _ hu1 hu2
  refine call_run (o:=opAt OP1 0) (d:=6) (by kernel_rfl) (by kernel_rfl) (by kernel_rfl) (by kernel_rfl) (enter_of Tryz.func50 rfl (by decide)) (hR1 u2) ?_
  rintro v w1 ⟨A,c,rfl,how,hbw⟩
  have hw1:=hS _ _ hu3 hbw
  have hgw:=(hg.keep hu2).keep hbw
  have hgS:y0.drew.heap.size<=g:=hgs
  have hbut:∀z,But g w1 z->RowKit.Below y0.drew.heap.size y0.drew z:=fun z hz=>hw1.trans (hz.below hgS hw1.size)
  have hap:∀q,A=some ⟨q,0,none⟩->g≠q:=fun q hq=>how.apart hgw (by decide) q hq
  have hru:∀z,But g w1 z->Rd z z.heap.size A 4 .u64 FrR.mL:=fun z hz=>(Frs.of_own (how.but hap hz)).rd
  have hS2:∀u v:World,But g w1 u->RowKit.Below u.heap.size u v->But g w1 v:=fun u v h h'=>h.then h'
  have hrf:But g w1 w1:=But.of (RowKit.Below.refl _ _) _
  refine⟨hw1,wpAnyU_weaken (S':=fun z=>But g w1 z) hbut ?_⟩
  obtain⟨a2,ha2⟩:∃a2,a2=(a1.put (some 3) (.pointer (some ⟨g,0,none⟩))).put (some 6) (.slice A 4 c):=⟨_,rfl⟩
  rw[<-ha2]
  have z2:a2.tmps.size=17:=by rw[ha2];simp only[Act.size_put,z1]
  have g3:a2.tmps[3]? = some (.pointer (some ⟨g,0,none⟩)):=by rw[ha2];exact (put_ne (by decide)).trans (put_eq (by rw[z1];decide))
  have g6:a2.tmps[6]? = some (.slice A 4 c):=by rw[ha2];exact put_eq (by rw[Act.size_put,z1];decide)
  have g7:a2.tmps[7]? = some (.agg (vals .u64 x ++ #[.bool b])):=by rw[ha2];exact (put_ne (by decide)).trans ((put_ne (by decide)).trans f7)
  have gd:a2.defers=[]:=by rw[ha2];exact put_defers.trans (put_defers.trans d1)
  clear ha2
  change wpAnyU _ _ _ _ _ _ (stm (stm L1x 6) 0) _ _
  refine wpAnyU_take (i:=2) (oi:=(opAt OP1 2)) hS2 (by kernel_rfl) hsel (by kernel_rfl) (by kernel_rfl) (post_panic _) hrf (st_call (v:=(.tuple #[.agg (ptA1 x b),.int .i64 (if onB G1K.K1 (G1K.K1.F.int 4) (ptv G1K.K1 x b)=true then (0:Int) else 120)])) (by kernel_rfl) (p:=.tmp 6) (q:=.tmp 7) (F:=49) (T:=#[50,35]) (by kernel_rfl) (eval_of g6) (eval_of g7) (enter_of Tryz.func49 rfl (by decide)) (fun z hz=>mulc1 x hx b A c z.heap.size z ((hG0.keep hb0).keep (hbut z hz)) (hru z hz) (Nat.le_refl _))) ?_
  rw[show (opAt OP1 2).dst=some 8 from (by kernel_rfl)]
  refine wpAnyU_take (i:=3) (oi:=(opAt OP1 3)) hS2 (by kernel_rfl) hsel (by kernel_rfl) (by kernel_rfl) (post_panic _) hrf (st_move (v:=(.tuple #[.agg (ptA1 x b),.int .i64 (if onB G1K.K1 (G1K.K1.F.int 4) (ptv G1K.K1 x b)=true then (0:Int) else 120)])) (by kernel_rfl) (p:=.tmp 8) (by kernel_rfl) (eval_of (put_eq (by rw[z2];decide)))) ?_
  rw[show (opAt OP1 3).dst=some 5 from (by kernel_rfl)]
  refine wpAnyU_take (i:=4) (oi:=(opAt OP1 4)) hS2 (by kernel_rfl) hsel (by kernel_rfl) (by kernel_rfl) (post_panic _) hrf (st_extract (by kernel_rfl) (p:=.tmp 5) (i:=0) (v:=.agg (ptA1 x b)) (by kernel_rfl) (eval_of (put_eq (by simp only[Act.size_put,z2];decide))) rfl) ?_
  rw[show (opAt OP1 4).dst=some 9 from (by kernel_rfl)]
  refine wpAnyU_take (i:=5) (oi:=(opAt OP1 5)) hS2 (by kernel_rfl) hsel (by kernel_rfl) (by kernel_rfl) (post_panic _) hrf (st_extract (by kernel_rfl) (p:=.tmp 5) (i:=1) (v:=.int .i64 (if onB G1K.K1 (G1K.K1.F.int 4) (ptv G1K.K1 x b)=true then (0:Int) else 120)) (by kernel_rfl) (eval_of ((put_ne (by decide)).trans (put_eq (by simp only[Act.size_put,z2];decide)))) rfl) ?_
  rw[show (opAt OP1 5).dst=some 10 from (by kernel_rfl)]
  obtain⟨b2,hb2⟩:∃b2,b2=((((a2.put (some 8) (.tuple #[.agg (ptA1 x b),.int .i64 (if onB G1K.K1 (G1K.K1.F.int 4) (ptv G1K.K1 x b)=true then (0:Int) else 120)])).put (some 5) (.tuple #[.agg (ptA1 x b),.int .i64 (if onB G1K.K1 (G1K.K1.F.int 4) (ptv G1K.K1 x b)=true then (0:Int) else 120)])).put (some 9) (.agg (ptA1 x b))).put (some 10) (.int .i64 (if onB G1K.K1 (G1K.K1.F.int 4) (ptv G1K.K1 x b)=true then (0:Int) else 120))):=⟨_,rfl⟩
  rw[<-hb2]
  have y2:b2.tmps.size=17:=by rw[hb2];simp only[Act.size_put,z2]
  have k3:b2.tmps[3]? = some (.pointer (some ⟨g,0,none⟩)):=by rw[hb2,put_ne (by decide),put_ne (by decide),put_ne (by decide),put_ne (by decide)];exact g3
  have k9:b2.tmps[9]? = some (.agg (ptA1 x b)):=by rw[hb2];exact (put_ne (by decide)).trans (put_eq (by simp only[Act.size_put,z2];decide))
  have k10:b2.tmps[10]? = some (.int .i64 (if onB G1K.K1 (G1K.K1.F.int 4) (ptv G1K.K1 x b)=true then (0:Int) else 120)):=by rw[hb2];exact put_eq (by simp only[Act.size_put,z2];decide)
  have kd:b2.defers=[]:=by rw[hb2];simp only[put_defers];exact gd
  clear hb2
  refine then_store (f:=1) (i:=7) (o:=(opAt OP1 7)) (by kernel_rfl) (by kernel_rfl) (by kernel_rfl) (p:=.tmp 3) (q:=.tmp 9) (ty:=35) (by kernel_rfl) (by kernel_rfl) (g:=g) (eval_of k3) (eval_of k9) hgw (by kernel_rfl) (fun w' hh hw'=>⟨hw',?_⟩)
  refine end_take (i:=8) (oi:=(opAt OP1 8)) hS2 (by kernel_rfl) hsel (by kernel_rfl) (by kernel_rfl) (by kernel_rfl) (post_panic _) hw' (st_assign (v:=.int .i64 (if onB G1K.K1 (G1K.K1.F.int 4) (ptv G1K.K1 x b)=true then (0:Int) else 120)) (by kernel_rfl) (p:=.tmp 10) (by kernel_rfl) (eval_of k10)) (fun w2 hw2=>?_)
  rw[show (opAt OP1 8).dst=some 4 from (by kernel_rfl)]
  have hwz:=hbut w2 (hw'.then hw2)
  have hhz:=hh.keep hw2
  show (rsN 2 (bodyOf Tryz.f25)).wp Tryz.prog (bodyPost Tryz.prog Tryz.f25 Q) _ w2
  refine tail_ok (gs:=[g]) X1_ok.toCxB rfl (fun u hu=>((hG0.keep hb0).keep hwz).keep hu) e2 hO2 (mkSl_ok (by rw[Act.size_put,y2]) fun p hp=>?_) (mkSl_sok fun p hp=>?_) (Nat.le_refl _) (wd_of (gs:=[g]) (bs:=bC1 x b) rfl fun k t r hk=>?_) (put_defers.trans kd) (fq w2 hwz)
  ·simp only[List.mem_cons,List.not_mem_nil,or_false] at hp
   rcases hp with rfl|rfl
   ·exact (put_ne (by decide)).trans k3
   ·exact put_eq (by rw[y2];decide)
  ·simp only[List.mem_cons,List.not_mem_nil,or_false] at hp
   rcases hp with rfl|rfl
   ·exact Nat.zero_lt_one
   ·trivial
  ·match k,hk with
   |0,hk=>
    obtain⟨rfl,rfl⟩:35=t/\[.nums 12 (ptW G1K.K1 (mulO G1K.K1 (G1K.K1.F.int 4) (Limb.num FrR.mL).toNat (ptv G1K.K1 x b))),.nm (.bl (ptB (mulO G1K.K1 (G1K.K1.F.int 4) (Limb.num FrR.mL).toNat (ptv G1K.K1 x b))))]=r:=by simpa [bC1] using hk
    exact⟨by rw[show (den [.nums 12 (ptW G1K.K1 (mulO G1K.K1 (G1K.K1.F.int 4) (Limb.num FrR.mL).toNat (ptv G1K.K1 x b))),.nm (.bl (ptB (mulO G1K.K1 (G1K.K1.F.int 4) (Limb.num FrR.mL).toNat (ptv G1K.K1 x b))))]).toArray=ptA1 x b by simp[den,Sg.den,NV.den,ptA1,vals]];exact hhz,nm_ptW G1K.K1 _,trivial,trivial⟩
   |k+1,hk=>simp[bC1] at hk
noncomputable def OP2:Array Oper:=(rg (rsN 1 (bodyOf Tryz.f26))).toArray
noncomputable def L2x:Array Bool:=stm (Array.replicate OP2.size false) 1
def sA2 (A:Option Addr)(c:Nat)(x:List Int)(b:Bool):List AV:=mkSl 17 [(6,.ext A 4 c FrR.mL),(7,.agg [.nums 24 x,.nm (.bl b)])]
def sC2 (x:List Int)(b:Bool):List AV:=mkSl 17 [(3,.ptr 0 0),(4,.num .i64 (if onB G2K.K2 G2K.bb (ptv G2K.K2 x b)=true then (0:Int) else 120))]
def bC2 (x:List Int)(b:Bool):List Bk:=[(37,[.nums 24 (ptW G2K.K2 (mulO G2K.K2 G2K.bb (Limb.num FrR.mL).toNat (ptv G2K.K2 x b))),.nm (.bl (ptB (mulO G2K.K2 G2K.bb (Limb.num FrR.mL).toNat (ptv G2K.K2 x b))))])]
def ptA2 (x:List Int)(b:Bool):Array Value:=vals .u64 (ptW G2K.K2 (mulO G2K.K2 G2K.bb (Limb.num FrR.mL).toNat (ptv G2K.K2 x b))) ++ #[.bool (ptB (mulO G2K.K2 G2K.bb (Limb.num FrR.mL).toNat (ptv G2K.K2 x b)))]
instance (x:List Int) (b:Bool):Cz 25 (ptA2 x b):=⟨by simp[ptA2,vals_size,(nm_ptW G2K.K2 _).len];rfl,by simp[ptA2,vals,Value.oneCell']⟩
theorem mulc2 (x:List Int)(hx:Nm 24 x)(b:Bool)(A:Option Addr)(c B:Nat)(w:World)(hG:GlobD w)(hr:Rd w B A 4 .u64 FrR.mL)(hB:B<=w.heap.size):Calls Tryz.prog 51 #[.slice A 4 c,.agg (vals .u64 x ++ #[.bool b])] w fun e w'=>e=.returned (.tuple #[.agg (ptA2 x b),.int .i64 (if onB G2K.K2 G2K.bb (ptv G2K.K2 x b)=true then (0:Int) else 120)])/\RowKit.Below w.heap.size w w':=by
 have h:=(S13R.qMul [.sl 4 FrR.mL,.p x b] ⟨⟨by decide,rfl,FrR.mL_words⟩,hx,trivial⟩ trivial).2.2 w hG [Value.slice A 4 c,Value.agg (vals .u64 x ++ #[Value.bool b])] ⟨⟨A,c,rfl,B,hB,hr⟩,rfl,trivial⟩
 rwa [show (S13R.oM S13R.mulA [.sl 4 FrR.mL,.p x b]).den []=.tuple #[.agg (ptA2 x b),.int .i64 (if onB G2K.K2 G2K.bb (ptv G2K.K2 x b)=true then (0:Int) else 120)] by simp[S13R.oM,S13R.mulA,AV.den,TV.den,den,Sg.den,NV.den,ptA2,vals]] at h
instance:Agg Tryz.prog 37 25:=.of Tryz.underlying37 (by kernel_rfl) rfl
set_option maxHeartbeats 2000000 in
theorem rest2 {x:List Int}(hx:Nm 24 x){b:Bool}{q:List Bool}{V:Bool}{O:Option Addr->Nat->List Ob}{O2:List Ob}
  (e0:∀A c B,evalX Tryz.prog (X1.sym (DS [(A,4,FrR.mL,B)]) []) 0 9 OP2 (stm L2x 0) 7 (rsN 2 (bodyOf Tryz.f26)) Tryz.f26.results.toList (sA2 A c x b) [] q=some ([.val (.bool V)],O A B))
  (e2:evalR Tryz.prog X1 1 9 (rsN 2 (bodyOf Tryz.f26)) Tryz.f26.results.toList (sC2 x b) (bC2 x b) q=some ([.val (.bool V)],O2)) (hO2:Holds O2)
  (hO:∀A B,DS [(A,4,FrR.mL,B)] A 4 FrR.mL->Holds (O A B)) {act:Act} {y0:World} {g0:Nat} (hG0:GlobD y0) (h1:act.tmps.size=17) (ht:act.tmps[1]? = some (.pointer (some ⟨g0,0,none⟩))) (hd:act.defers=[]) (q1:Has y0 g0 37 (vals .u64 x ++ #[.bool b])) {Q:Ending->World->Prop} (hQ:∀x',RowKit.Below y0.heap.size y0 x'->Q (.returned (.bool V)) x') :
  (rsN 1 (bodyOf Tryz.f26)).wp Tryz.prog (bodyPost Tryz.prog Tryz.f26 Q) act y0:=by
 have hcz:Cz 25 (vals .u64 x ++ #[.bool b]):=⟨by simp[vals_size,hx.len],by simp[vals,Value.oneCell']⟩
 have hc:rsN 1 (bodyOf Tryz.f26)=.seq (.region 1 OP2 true) (rsN 2 (bodyOf Tryz.f26)):=by kernel_rfl
 have hb0:RowKit.Below y0.heap.size y0 y0.drew:=⟨rfl,rfl,rfl,Nat.le_refl _,fun _ _=>rfl⟩
 rw[hc]
 refine wp_seq ?_
 refine wp_regionU (S:=fun u=>RowKit.Below y0.drew.heap.size y0.drew u) (by kernel_rfl) ?_
 have hsel:Region.noSelect OP2=true:=by kernel_rfl
 suffices key:∀k,k=7+1+1->wpAnyU Tryz.prog .any OP2 (Exit.then (fun a x=>(rsN 2 (bodyOf Tryz.f26)).wp Tryz.prog (bodyPost Tryz.prog Tryz.f26 Q) a x) (bodyPost Tryz.prog Tryz.f26 Q)) (fun u=>RowKit.Below y0.drew.heap.size y0.drew u) k (Array.replicate OP2.size false) act y0.drew from key _ (by kernel_rfl)
 intro k hk
 subst hk
 have hS:∀u v:World,RowKit.Below y0.drew.heap.size y0.drew u->RowKit.Below u.heap.size u v->RowKit.Below y0.drew.heap.size y0.drew v:=fun u v h h'=>h.trans (h'.mono h.size)
 refine wpAnyU_take (i:=1) (oi:=(opAt OP2 1)) hS (by kernel_rfl) hsel (by kernel_rfl) (by kernel_rfl) (post_panic _) (RowKit.Below.refl _ _) (st_load (g:=g0) (t:=37) (ty:=37) (n:=25) (cs:=(vals .u64 x ++ #[.bool b])) (fun u hu=>(q1.keep hb0).keep hu) (by kernel_rfl) (p:=.tmp 1) (by kernel_rfl) (eval_of ht)) ?_
 rw[show (opAt OP2 1).dst=some 7 from (by kernel_rfl)]
 obtain⟨a1,ha1⟩:∃a1,a1=act.put (some 7) (.agg (vals .u64 x ++ #[.bool b])):=⟨_,rfl⟩
 rw[<-ha1]
 have z1:a1.tmps.size=17:=by rw[ha1,Act.size_put,h1]
 have f7:a1.tmps[7]? = some (.agg (vals .u64 x ++ #[.bool b])):=by rw[ha1];exact put_eq (by rw[h1];decide)
 have d1:a1.defers=[]:=by rw[ha1];exact put_defers.trans hd
 clear ha1 ht hd h1
 have hR1:∀u:World,Calls Tryz.prog 50 #[] u fun e w'=>∃v,e=.returned v/\∃A c,v=.slice A 4 c/\Own w' u.heap.size 22 .u64 A 4 c FrR.mL/\RowKit.Below u.heap.size u w':=fun u=>(FrR.refR1_c u).mono fun e w' h=>by
  obtain⟨A,c,h1,h2,h3⟩:=h
  exact⟨_,h1,A,c,rfl,h2,h3⟩
 have fq:∀(w1:World),RowKit.Below y0.drew.heap.size y0.drew w1->∀v∈[AV.val (.bool V)],∀x',RowKit.Below w1.heap.size w1 x'->∀gs':List Nat,Q (.returned (v.den gs')) x':=fun w1 hw v hv x' hx' gs'=>by
  obtain rfl:=List.mem_singleton.1 hv
  exact hQ x' (hb0.trans (hw.trans (hx'.mono hw.size)))
 have fG:∀(A:Option Addr) (w1:World),RowKit.Below y0.drew.heap.size y0.drew w1->Rd w1 w1.heap.size A 4 .u64 FrR.mL->∀u,RowKit.Below w1.heap.size w1 u->GS GlobD [(A,4,FrR.mL,w1.heap.size)] u:=fun A w1 hw hr u hu=>GS.keep (fun h k=>h.keep k) ⟨(hG0.keep hb0).keep hw,fun s hs=>by
  obtain rfl:=List.mem_singleton.1 hs
  exact⟨Nat.le_refl _,hr⟩⟩ hu
 have fC:∀(A:Option Addr) (B:Nat),CxB Tryz.prog (X1.sym (DS [(A,4,FrR.mL,B)]) []) (GS GlobD [(A,4,FrR.mL,B)]):=fun A B=>X1_ok.toCxB.sym (fun u hu=>hu.1) (DS_ok fun s hs=>by obtain rfl:=List.mem_singleton.1 hs;exact FrR.mL_words) []
 have fD:∀(A:Option Addr) (B:Nat),DS [(A,4,FrR.mL,B)] A 4 FrR.mL:=fun A B=>⟨B,by simp⟩
 change wpAnyU _ _ _ _ _ _ L2x a1 _
 have hr0:Region.ready .any OP2 L2x=[0,6]:=by kernel_rfl
 have hr6:Region.ready .any OP2 (stm L2x 6)=[0]:=by kernel_rfl
 refine⟨by rw[hr0];simp,fun r hr u hu=>?_⟩
 rw[hr0] at hr
 have hr':r=0∨r=6:=by simpa using hr
 rcases hr' with rfl|rfl
 ·refine call_run (o:=opAt OP2 0) (d:=6) (by kernel_rfl) (by kernel_rfl) (by kernel_rfl) (by kernel_rfl) (enter_of Tryz.func50 rfl (by decide)) (hR1 u) ?_
  rintro v w1 ⟨A,c,rfl,how,hbw⟩
  have hrd:=(Frs.of_own how).rd
  have hw1:=hS _ _ hu hbw
  refine⟨hw1,wpAnyU_weaken (S':=fun z=>Sst w1.heap.size w1 OP2 [] (sA2 A c x b) [] z/\w1.heap.size<=z.heap.size) (fun z hz=>hw1.trans (hz.1.1.mono hw1.size)) ?_⟩
  refine rest_any (fC A w1.heap.size) rfl (fG A w1 hw1 hrd) hsel (by kernel_rfl) (e0 A c w1.heap.size) (hO A _ (fD A _)) (mkSl_ok (by rw[Act.size_put,z1]) fun p hp=>?_) (mkSl_sok fun p hp=>?_) (Nat.le_refl _) (wd_of (gs:=[]) (bs:=[]) rfl fun k t r hk=>by simp at hk) (put_defers.trans d1) (fq w1 hw1)
  ·simp only[List.mem_cons,List.not_mem_nil,or_false] at hp
   rcases hp with rfl|rfl
   ·exact put_eq (by rw[z1];decide)
   ·exact (put_ne (d:=6) (k:=7) (by decide)).trans (f7.trans (congrArg some G2K.p_den.symm))
  ·simp only[List.mem_cons,List.not_mem_nil,or_false] at hp
   rcases hp with rfl|rfl
   ·trivial
   ·exact⟨hx,trivial,trivial⟩
 ·have hal:AllocAt Tryz.prog OP2 6 3 37 (vals .u64 (List.replicate 24 0) ++ #[.bool false]):=⟨⟨(opAt OP2 6),(by kernel_rfl),(by kernel_rfl),(by kernel_rfl),(by kernel_rfl)⟩,_,_,rfl,rfl,(by kernel_rfl)⟩
  have hu1:=hS _ _ hu ((RowKit.Below.refl u.heap.size u).alloc (Nat.le_refl _) (.cells (vals .u64 (List.replicate 24 0) ++ #[.bool false]) 37))
  refine hal.run ⟨hu1,?_⟩
  have hg:Has (u.alloc (.cells (vals .u64 (List.replicate 24 0) ++ #[.bool false]) 37)) u.heap.size 37 (vals .u64 (List.replicate 24 0) ++ #[.bool false]):=Has.new _ _ _
  obtain⟨u1,hue⟩:∃u1,u1=u.alloc (.cells (vals .u64 (List.replicate 24 0) ++ #[.bool false]) 37):=⟨_,rfl⟩
  obtain⟨g,hge⟩:∃g,g=u.heap.size:=⟨_,rfl⟩
  rw[<-hue] at hg hu1 ⊢
  rw[<-hge] at hg ⊢
  have hgs:y0.drew.heap.size<=g:=by rw[hge];exact hu.size
  clear hue hge
  change wpAnyU _ _ _ _ _ _ (stm L2x 6) _ _
  refine⟨by rw[hr6];simp,fun r hr u2 hu2=>?_⟩
  rw[hr6] at hr
  obtain rfl:=List.mem_singleton.1 hr
  have hu3:=hS _ _ hu1 hu2
  refine call_run (o:=opAt OP2 0) (d:=6) (by kernel_rfl) (by kernel_rfl) (by kernel_rfl) (by kernel_rfl) (enter_of Tryz.func50 rfl (by decide)) (hR1 u2) ?_
  rintro v w1 ⟨A,c,rfl,how,hbw⟩
  have hw1:=hS _ _ hu3 hbw
  have hgw:=(hg.keep hu2).keep hbw
  have hgS:y0.drew.heap.size<=g:=hgs
  have hbut:∀z,But g w1 z->RowKit.Below y0.drew.heap.size y0.drew z:=fun z hz=>hw1.trans (hz.below hgS hw1.size)
  have hap:∀q,A=some ⟨q,0,none⟩->g≠q:=fun q hq=>how.apart hgw (by decide) q hq
  have hru:∀z,But g w1 z->Rd z z.heap.size A 4 .u64 FrR.mL:=fun z hz=>(Frs.of_own (how.but hap hz)).rd
  have hS2:∀u v:World,But g w1 u->RowKit.Below u.heap.size u v->But g w1 v:=fun u v h h'=>h.then h'
  have hrf:But g w1 w1:=But.of (RowKit.Below.refl _ _) _
  refine⟨hw1,wpAnyU_weaken (S':=fun z=>But g w1 z) hbut ?_⟩
  obtain⟨a2,ha2⟩:∃a2,a2=(a1.put (some 3) (.pointer (some ⟨g,0,none⟩))).put (some 6) (.slice A 4 c):=⟨_,rfl⟩
  rw[<-ha2]
  have z2:a2.tmps.size=17:=by rw[ha2];simp only[Act.size_put,z1]
  have g3:a2.tmps[3]? = some (.pointer (some ⟨g,0,none⟩)):=by rw[ha2];exact (put_ne (by decide)).trans (put_eq (by rw[z1];decide))
  have g6:a2.tmps[6]? = some (.slice A 4 c):=by rw[ha2];exact put_eq (by rw[Act.size_put,z1];decide)
  have g7:a2.tmps[7]? = some (.agg (vals .u64 x ++ #[.bool b])):=by rw[ha2];exact (put_ne (by decide)).trans ((put_ne (by decide)).trans f7)
  have gd:a2.defers=[]:=by rw[ha2];exact put_defers.trans (put_defers.trans d1)
  clear ha2
  change wpAnyU _ _ _ _ _ _ (stm (stm L2x 6) 0) _ _
  refine wpAnyU_take (i:=2) (oi:=(opAt OP2 2)) hS2 (by kernel_rfl) hsel (by kernel_rfl) (by kernel_rfl) (post_panic _) hrf (st_call (v:=(.tuple #[.agg (ptA2 x b),.int .i64 (if onB G2K.K2 G2K.bb (ptv G2K.K2 x b)=true then (0:Int) else 120)])) (by kernel_rfl) (p:=.tmp 6) (q:=.tmp 7) (F:=51) (T:=#[50,37]) (by kernel_rfl) (eval_of g6) (eval_of g7) (enter_of Tryz.func51 rfl (by decide)) (fun z hz=>mulc2 x hx b A c z.heap.size z ((hG0.keep hb0).keep (hbut z hz)) (hru z hz) (Nat.le_refl _))) ?_
  rw[show (opAt OP2 2).dst=some 8 from (by kernel_rfl)]
  refine wpAnyU_take (i:=3) (oi:=(opAt OP2 3)) hS2 (by kernel_rfl) hsel (by kernel_rfl) (by kernel_rfl) (post_panic _) hrf (st_move (v:=(.tuple #[.agg (ptA2 x b),.int .i64 (if onB G2K.K2 G2K.bb (ptv G2K.K2 x b)=true then (0:Int) else 120)])) (by kernel_rfl) (p:=.tmp 8) (by kernel_rfl) (eval_of (put_eq (by rw[z2];decide)))) ?_
  rw[show (opAt OP2 3).dst=some 5 from (by kernel_rfl)]
  refine wpAnyU_take (i:=4) (oi:=(opAt OP2 4)) hS2 (by kernel_rfl) hsel (by kernel_rfl) (by kernel_rfl) (post_panic _) hrf (st_extract (by kernel_rfl) (p:=.tmp 5) (i:=0) (v:=.agg (ptA2 x b)) (by kernel_rfl) (eval_of (put_eq (by simp only[Act.size_put,z2];decide))) rfl) ?_
  rw[show (opAt OP2 4).dst=some 9 from (by kernel_rfl)]
  refine wpAnyU_take (i:=5) (oi:=(opAt OP2 5)) hS2 (by kernel_rfl) hsel (by kernel_rfl) (by kernel_rfl) (post_panic _) hrf (st_extract (by kernel_rfl) (p:=.tmp 5) (i:=1) (v:=.int .i64 (if onB G2K.K2 G2K.bb (ptv G2K.K2 x b)=true then (0:Int) else 120)) (by kernel_rfl) (eval_of ((put_ne (by decide)).trans (put_eq (by simp only[Act.size_put,z2];decide)))) rfl) ?_
  rw[show (opAt OP2 5).dst=some 10 from (by kernel_rfl)]
  obtain⟨b2,hb2⟩:∃b2,b2=((((a2.put (some 8) (.tuple #[.agg (ptA2 x b),.int .i64 (if onB G2K.K2 G2K.bb (ptv G2K.K2 x b)=true then (0:Int) else 120)])).put (some 5) (.tuple #[.agg (ptA2 x b),.int .i64 (if onB G2K.K2 G2K.bb (ptv G2K.K2 x b)=true then (0:Int) else 120)])).put (some 9) (.agg (ptA2 x b))).put (some 10) (.int .i64 (if onB G2K.K2 G2K.bb (ptv G2K.K2 x b)=true then (0:Int) else 120))):=⟨_,rfl⟩
  rw[<-hb2]
  have y2:b2.tmps.size=17:=by rw[hb2];simp only[Act.size_put,z2]
  have k3:b2.tmps[3]? = some (.pointer (some ⟨g,0,none⟩)):=by rw[hb2,put_ne (by decide),put_ne (by decide),put_ne (by decide),put_ne (by decide)];exact g3
  have k9:b2.tmps[9]? = some (.agg (ptA2 x b)):=by rw[hb2];exact (put_ne (by decide)).trans (put_eq (by simp only[Act.size_put,z2];decide))
  have k10:b2.tmps[10]? = some (.int .i64 (if onB G2K.K2 G2K.bb (ptv G2K.K2 x b)=true then (0:Int) else 120)):=by rw[hb2];exact put_eq (by simp only[Act.size_put,z2];decide)
  have kd:b2.defers=[]:=by rw[hb2];simp only[put_defers];exact gd
  clear hb2
  refine then_store (f:=1) (i:=7) (o:=(opAt OP2 7)) (by kernel_rfl) (by kernel_rfl) (by kernel_rfl) (p:=.tmp 3) (q:=.tmp 9) (ty:=37) (by kernel_rfl) (by kernel_rfl) (g:=g) (eval_of k3) (eval_of k9) hgw (by kernel_rfl) (fun w' hh hw'=>⟨hw',?_⟩)
  refine end_take (i:=8) (oi:=(opAt OP2 8)) hS2 (by kernel_rfl) hsel (by kernel_rfl) (by kernel_rfl) (by kernel_rfl) (post_panic _) hw' (st_assign (v:=.int .i64 (if onB G2K.K2 G2K.bb (ptv G2K.K2 x b)=true then (0:Int) else 120)) (by kernel_rfl) (p:=.tmp 10) (by kernel_rfl) (eval_of k10)) (fun w2 hw2=>?_)
  rw[show (opAt OP2 8).dst=some 4 from (by kernel_rfl)]
  have hwz:=hbut w2 (hw'.then hw2)
  have hhz:=hh.keep hw2
  show (rsN 2 (bodyOf Tryz.f26)).wp Tryz.prog (bodyPost Tryz.prog Tryz.f26 Q) _ w2
  refine tail_ok (gs:=[g]) X1_ok.toCxB rfl (fun u hu=>((hG0.keep hb0).keep hwz).keep hu) e2 hO2 (mkSl_ok (by rw[Act.size_put,y2]) fun p hp=>?_) (mkSl_sok fun p hp=>?_) (Nat.le_refl _) (wd_of (gs:=[g]) (bs:=bC2 x b) rfl fun k t r hk=>?_) (put_defers.trans kd) (fq w2 hwz)
  ·simp only[List.mem_cons,List.not_mem_nil,or_false] at hp
   rcases hp with rfl|rfl
   ·exact (put_ne (by decide)).trans k3
   ·exact put_eq (by rw[y2];decide)
  ·simp only[List.mem_cons,List.not_mem_nil,or_false] at hp
   rcases hp with rfl|rfl
   ·exact Nat.zero_lt_one
   ·trivial
  ·match k,hk with
   |0,hk=>
    obtain⟨rfl,rfl⟩:37=t/\[.nums 24 (ptW G2K.K2 (mulO G2K.K2 G2K.bb (Limb.num FrR.mL).toNat (ptv G2K.K2 x b))),.nm (.bl (ptB (mulO G2K.K2 G2K.bb (Limb.num FrR.mL).toNat (ptv G2K.K2 x b))))]=r:=by simpa [bC2] using hk
    exact⟨by rw[show (den [.nums 24 (ptW G2K.K2 (mulO G2K.K2 G2K.bb (Limb.num FrR.mL).toNat (ptv G2K.K2 x b))),.nm (.bl (ptB (mulO G2K.K2 G2K.bb (Limb.num FrR.mL).toNat (ptv G2K.K2 x b))))]).toArray=ptA2 x b by simp[den,Sg.den,NV.den,ptA2,vals]];exact hhz,nm_ptW G2K.K2 _,trivial,trivial⟩
   |k+1,hk=>simp[bC2] at hk
theorem hd1 (x:List Int)(b:Bool)(w:World)(hG:GlobD w){Q:Ending->World->Prop}(hR:∀a y,(∃g0,GlobD y/\a.tmps.size=17/\a.tmps[1]? = some (.pointer (some ⟨g0,0,none⟩))/\a.defers=[]/\Has y g0 35 (vals .u64 x ++ #[.bool b])/\RowKit.Below w.heap.size w y/\w.heap.size<=y.heap.size)->(rsN 1 (bodyOf Tryz.f25)).wp Tryz.prog (bodyPost Tryz.prog Tryz.f25 Q) a y):Calls Tryz.prog 25 #[.agg (vals .u64 x ++ #[.bool b])] w Q:=by
 have hb:=(RowKit.Below.refl w.heap.size w).alloc (Nat.le_refl _) (.cells (vals .u64 x ++ #[.bool b]) 35)
 have hq:Has (w.alloc (.cells (vals .u64 x ++ #[.bool b]) 35)) w.heap.size 35 (vals .u64 x ++ #[.bool b]):=Has.new _ _ _
 refine calls_opq1 (fun a y=>(∃g0,GlobD y/\a.tmps.size=17/\a.tmps[1]? = some (.pointer (some ⟨g0,0,none⟩))/\a.defers=[]/\Has y g0 35 (vals .u64 x ++ #[.bool b])/\RowKit.Below w.heap.size w y/\w.heap.size<=y.heap.size)) Tryz.func25 rfl (fun a y h=>hR a y h) (fun R' hR'=>?_)
 simp only[Tryz.ntmps25,List.size_toArray,List.length_cons,List.length_nil,Nat.reduceAdd,Nat.reduceSub,Array.replicate_succ,Array.replicate_zero,List.push_toArray,List.append_toArray,List.nil_append,List.cons_append]
 clear hR
 go_wp2
 exact hR' _ _ ⟨w.heap.size,hG.keep hb,rfl,rfl,rfl,hq,hb,hb.size⟩
theorem qIn1:ConG Tryz.prog GlobD 25 [.p 12] G1K.Pre0 (G1K.o1 fun x b=>.bl (inB G1K.K1 (G1K.K1.F.int 4) rN (ptv G1K.K1 x b))):=G1K.con1 (fun x b n=>trivial) (fun x b gs=>rfl) (fun x hx b w hG=>by
 cases ho:onB G1K.K1 (G1K.K1.F.int 4) (ptv G1K.K1 x b)
 ·rw[inB_off G1K.K1 ho]
  exact hd1 x b w hG (fun a y h=>by
   obtain⟨g0,k1,k2,k3,k4,k5,k6,k7⟩:=h
   exact rest1 (q:=[false]) (V:=false) (O:=fun A B=>[DS [(A,4,FrR.mL,B)] A 4 FrR.mL,4<=10000,qb false ((if onB G1K.K1 (G1K.K1.F.int 4) (ptv G1K.K1 x b)=true then (0:Int) else 120)=0)]) hx (O2:=[qb false ((if onB G1K.K1 (G1K.K1.F.int 4) (ptv G1K.K1 x b)=true then (0:Int) else 120)=0)]) (fun A c B=>by kernel_rfl) (by kernel_rfl) (hp ((by rw[ho];exact (by decide:¬(120:Int)=0))) trivial) (fun A B h=>hp (h) (hp (by decide) (hp ((by rw[ho];exact (by decide:¬(120:Int)=0))) trivial))) k1 k2 k3 k4 k5 (fun x' hb=>⟨rfl,k6.trans (hb.mono k7)⟩))
 ·have hi:=(inB_on G1K.K1 (r:=rN) ho).symm
  rw[<-show (Limb.num FrR.mL).toNat=rN from r_num] at hi
  cases e:inB G1K.K1 (G1K.K1.F.int 4) rN (ptv G1K.K1 x b)
  ·rw[show inB G1K.K1 (G1K.K1.F.int 4) rN (ptv G1K.K1 x b)=ptB (mulO G1K.K1 (G1K.K1.F.int 4) (Limb.num FrR.mL).toNat (ptv G1K.K1 x b)) from hi.symm] at e
   exact hd1 x b w hG (fun a y h=>by
   obtain⟨g0,k1,k2,k3,k4,k5,k6,k7⟩:=h
   exact rest1 (q:=[true,false]) (V:=false) (O:=fun A B=>[DS [(A,4,FrR.mL,B)] A 4 FrR.mL,4<=10000,qb true ((if onB G1K.K1 (G1K.K1.F.int 4) (ptv G1K.K1 x b)=true then (0:Int) else 120)=0),ptB (mulO G1K.K1 (G1K.K1.F.int 4) (Limb.num FrR.mL).toNat (ptv G1K.K1 x b))=false]) hx (O2:=[qb true ((if onB G1K.K1 (G1K.K1.F.int 4) (ptv G1K.K1 x b)=true then (0:Int) else 120)=0),ptB (mulO G1K.K1 (G1K.K1.F.int 4) (Limb.num FrR.mL).toNat (ptv G1K.K1 x b))=false]) (fun A c B=>by kernel_rfl) (by kernel_rfl) (hp (if_pos ho) (hp (e) trivial)) (fun A B h=>hp (h) (hp (by decide) (hp (if_pos ho) (hp (e) trivial)))) k1 k2 k3 k4 k5 (fun x' hb=>⟨rfl,k6.trans (hb.mono k7)⟩))
  ·rw[show inB G1K.K1 (G1K.K1.F.int 4) rN (ptv G1K.K1 x b)=ptB (mulO G1K.K1 (G1K.K1.F.int 4) (Limb.num FrR.mL).toNat (ptv G1K.K1 x b)) from hi.symm] at e
   exact hd1 x b w hG (fun a y h=>by
   obtain⟨g0,k1,k2,k3,k4,k5,k6,k7⟩:=h
   exact rest1 (q:=[true,true]) (V:=true) (O:=fun A B=>[DS [(A,4,FrR.mL,B)] A 4 FrR.mL,4<=10000,qb true ((if onB G1K.K1 (G1K.K1.F.int 4) (ptv G1K.K1 x b)=true then (0:Int) else 120)=0),ptB (mulO G1K.K1 (G1K.K1.F.int 4) (Limb.num FrR.mL).toNat (ptv G1K.K1 x b))=true]) hx (O2:=[qb true ((if onB G1K.K1 (G1K.K1.F.int 4) (ptv G1K.K1 x b)=true then (0:Int) else 120)=0),ptB (mulO G1K.K1 (G1K.K1.F.int 4) (Limb.num FrR.mL).toNat (ptv G1K.K1 x b))=true]) (fun A c B=>by kernel_rfl) (by kernel_rfl) (hp (if_pos ho) (hp (e) trivial)) (fun A B h=>hp (h) (hp (by decide) (hp (if_pos ho) (hp (e) trivial)))) k1 k2 k3 k4 k5 (fun x' hb=>⟨rfl,k6.trans (hb.mono k7)⟩)))
theorem hd2 (x:List Int)(b:Bool)(w:World)(hG:GlobD w){Q:Ending->World->Prop}(hR:∀a y,(∃g0,GlobD y/\a.tmps.size=17/\a.tmps[1]? = some (.pointer (some ⟨g0,0,none⟩))/\a.defers=[]/\Has y g0 37 (vals .u64 x ++ #[.bool b])/\RowKit.Below w.heap.size w y/\w.heap.size<=y.heap.size)->(rsN 1 (bodyOf Tryz.f26)).wp Tryz.prog (bodyPost Tryz.prog Tryz.f26 Q) a y):Calls Tryz.prog 26 #[.agg (vals .u64 x ++ #[.bool b])] w Q:=by
 have hb:=(RowKit.Below.refl w.heap.size w).alloc (Nat.le_refl _) (.cells (vals .u64 x ++ #[.bool b]) 37)
 have hq:Has (w.alloc (.cells (vals .u64 x ++ #[.bool b]) 37)) w.heap.size 37 (vals .u64 x ++ #[.bool b]):=Has.new _ _ _
 refine calls_opq1 (fun a y=>(∃g0,GlobD y/\a.tmps.size=17/\a.tmps[1]? = some (.pointer (some ⟨g0,0,none⟩))/\a.defers=[]/\Has y g0 37 (vals .u64 x ++ #[.bool b])/\RowKit.Below w.heap.size w y/\w.heap.size<=y.heap.size)) Tryz.func26 rfl (fun a y h=>hR a y h) (fun R' hR'=>?_)
 simp only[Tryz.ntmps26,List.size_toArray,List.length_cons,List.length_nil,Nat.reduceAdd,Nat.reduceSub,Array.replicate_succ,Array.replicate_zero,List.push_toArray,List.append_toArray,List.nil_append,List.cons_append]
 clear hR
 go_wp2
 exact hR' _ _ ⟨w.heap.size,hG.keep hb,rfl,rfl,rfl,hq,hb,hb.size⟩
theorem qIn2:ConG Tryz.prog GlobD 26 [.p 24] G2K.Pre0 (G2K.o1 fun x b=>.bl (inB G2K.K2 G2K.bb rN (ptv G2K.K2 x b))):=G2K.con1 (fun x b n=>trivial) (fun x b gs=>rfl) (fun x hx b w hG=>by
 cases ho:onB G2K.K2 G2K.bb (ptv G2K.K2 x b)
 ·rw[inB_off G2K.K2 ho]
  exact hd2 x b w hG (fun a y h=>by
   obtain⟨g0,k1,k2,k3,k4,k5,k6,k7⟩:=h
   exact rest2 (q:=[false]) (V:=false) (O:=fun A B=>[DS [(A,4,FrR.mL,B)] A 4 FrR.mL,4<=10000,qb false ((if onB G2K.K2 G2K.bb (ptv G2K.K2 x b)=true then (0:Int) else 120)=0)]) hx (O2:=[qb false ((if onB G2K.K2 G2K.bb (ptv G2K.K2 x b)=true then (0:Int) else 120)=0)]) (fun A c B=>by kernel_rfl) (by kernel_rfl) (hp ((by rw[ho];exact (by decide:¬(120:Int)=0))) trivial) (fun A B h=>hp (h) (hp (by decide) (hp ((by rw[ho];exact (by decide:¬(120:Int)=0))) trivial))) k1 k2 k3 k4 k5 (fun x' hb=>⟨rfl,k6.trans (hb.mono k7)⟩))
 ·have hi:=(inB_on G2K.K2 (r:=rN) ho).symm
  rw[<-show (Limb.num FrR.mL).toNat=rN from r_num] at hi
  cases e:inB G2K.K2 G2K.bb rN (ptv G2K.K2 x b)
  ·rw[show inB G2K.K2 G2K.bb rN (ptv G2K.K2 x b)=ptB (mulO G2K.K2 G2K.bb (Limb.num FrR.mL).toNat (ptv G2K.K2 x b)) from hi.symm] at e
   exact hd2 x b w hG (fun a y h=>by
   obtain⟨g0,k1,k2,k3,k4,k5,k6,k7⟩:=h
   exact rest2 (q:=[true,false]) (V:=false) (O:=fun A B=>[DS [(A,4,FrR.mL,B)] A 4 FrR.mL,4<=10000,qb true ((if onB G2K.K2 G2K.bb (ptv G2K.K2 x b)=true then (0:Int) else 120)=0),ptB (mulO G2K.K2 G2K.bb (Limb.num FrR.mL).toNat (ptv G2K.K2 x b))=false]) hx (O2:=[qb true ((if onB G2K.K2 G2K.bb (ptv G2K.K2 x b)=true then (0:Int) else 120)=0),ptB (mulO G2K.K2 G2K.bb (Limb.num FrR.mL).toNat (ptv G2K.K2 x b))=false]) (fun A c B=>by kernel_rfl) (by kernel_rfl) (hp (if_pos ho) (hp (e) trivial)) (fun A B h=>hp (h) (hp (by decide) (hp (if_pos ho) (hp (e) trivial)))) k1 k2 k3 k4 k5 (fun x' hb=>⟨rfl,k6.trans (hb.mono k7)⟩))
  ·rw[show inB G2K.K2 G2K.bb rN (ptv G2K.K2 x b)=ptB (mulO G2K.K2 G2K.bb (Limb.num FrR.mL).toNat (ptv G2K.K2 x b)) from hi.symm] at e
   exact hd2 x b w hG (fun a y h=>by
   obtain⟨g0,k1,k2,k3,k4,k5,k6,k7⟩:=h
   exact rest2 (q:=[true,true]) (V:=true) (O:=fun A B=>[DS [(A,4,FrR.mL,B)] A 4 FrR.mL,4<=10000,qb true ((if onB G2K.K2 G2K.bb (ptv G2K.K2 x b)=true then (0:Int) else 120)=0),ptB (mulO G2K.K2 G2K.bb (Limb.num FrR.mL).toNat (ptv G2K.K2 x b))=true]) hx (O2:=[qb true ((if onB G2K.K2 G2K.bb (ptv G2K.K2 x b)=true then (0:Int) else 120)=0),ptB (mulO G2K.K2 G2K.bb (Limb.num FrR.mL).toNat (ptv G2K.K2 x b))=true]) (fun A c B=>by kernel_rfl) (by kernel_rfl) (hp (if_pos ho) (hp (e) trivial)) (fun A B h=>hp (h) (hp (by decide) (hp (if_pos ho) (hp (e) trivial)))) k1 k2 k3 k4 k5 (fun x' hb=>⟨rfl,k6.trans (hb.mono k7)⟩)))
end S14R
namespace S14O
open Go Go.RowKit Reg Base Limb Sx Fp Fp2 Ec Pts SubM S14D
set_option maxHeartbeats 1000000
def GL:List (Nat×Row):=[(2,[.nums 6 bbL]),(3,[.nums 12 bxL]),(4,[.nums 12 byL])]
theorem has_nums {u:World}{g t n:Nat}{xs:List Int}(h:Has u g t (vals .u64 xs)):Has u g t (den [.nums n xs]).toArray:=by
 have:(den [.nums n xs]).toArray=vals .u64 xs:=by simp[den,Sg.den,vals]
 rw[this]
 exact h
theorem GL_ok:GlOk GlobD GL:=fun n r h=>by
 unfold GL lookG at h
 split at h
 ·rename_i hn
  subst hn
  obtain rfl:=Option.some.inj h
  exact⟨⟨⟨rfl,words_of _ (by decide)⟩,trivial⟩,fun u hu=>hu.x3.imp fun t h=>has_nums h⟩
 ·unfold lookG at h
  split at h
  ·rename_i hn
   subst hn
   obtain rfl:=Option.some.inj h
   exact⟨⟨⟨rfl,words_of _ (by decide)⟩,trivial⟩,fun u hu=>hu.x4.imp fun t h=>has_nums h⟩
  ·unfold lookG at h
   split at h
   ·rename_i hn
    subst hn
    obtain rfl:=Option.some.inj h
    exact⟨⟨⟨rfl,words_of _ (by decide)⟩,trivial⟩,fun u hu=>hu.x5.imp fun t h=>has_nums h⟩
   ·cases h
def L0:List (Fact Tryz.prog GlobD):=S12O.pMul.fact (.con Tryz.func120 rfl (by decide) S12O.pMul) ::
 S12O.pReduce.fact (.con Tryz.func115 rfl (by decide) S12O.pReduce) ::
 S7.lMul.fact (.con Tryz.func64 rfl (by decide) S7.lMul) ::
 S7.lConj.fact (.con Tryz.func126 rfl (by decide) S7.lConj) ::
 []
def T0:List (FuncId×Ent2):=[(103,entG [.p 12] G1K.Pre0 (G1K.o1 fun x b=>G1K.PA (negP G1K.K1.F (ptv G1K.K1 x b)))),(102,entG [.sl,.p 12] G1K.Pre0 (S12R.oM S12R.mulA)),(108,entG [.p 24] G2K.Pre0 (G2K.o1 fun x b=>G2K.PA (negP G2K.K2.F (ptv G2K.K2 x b)))),(107,entG [.sl,.p 24] G2K.Pre0 (S13R.oM S13R.mulA))]
theorem T0_ok:TOk2 Tryz.prog GlobD T0:=⟨.conG Tryz.func103 rfl (by decide) S12O.lNeg,.conG Tryz.func102 rfl (by decide) S12O.lMul,.conG Tryz.func108 rfl (by decide) S13O.lNeg,.conG Tryz.func107 rfl (by decide) S13O.lMul,trivial⟩
noncomputable def X0: Cx:=(((Cx.of [(24,6),(26,12)] (tb L0)).eqs [(35,12),(37,24)]).more T0).glob GL
theorem X0_ok: CxOk Tryz.prog X0 GlobD:=(((cx_ok (E:=[(24,6),(26,12)]) L0 ⟨⟨G1K.eqF,G1K.gdF⟩,⟨G2K.eqF,G2K.gdF⟩,trivial⟩ (by kernel_rfl)).eqs (EM:=[(35,12),(37,24)]) ⟨⟨G1K.eqG,G1K.gdG⟩,⟨G2K.eqG,G2K.gdG⟩,trivial⟩).more T0_ok).glob GL_ok
theorem lPhi:ConG Tryz.prog GlobD 100 [.p 12] G1K.Pre0 (G1K.o1 fun x b=>G1K.PA (phA (ptv G1K.K1 x b))):=G1K.con1 (fun x b n=>G1K.pa_ok _ _) (fun x b gs=>by rw[G1K.pa_den,G1K.pa_den]) (fun x hx b w hG=>by
 cases b
 ·exact fn_outS (N:=9) X0_ok GlobD.keep Tryz.func100 [] (fun s hs=>by cases hs) (G1K.noSS hG) (args:=[.agg [.nums 12 x,.nm (.bl false)]]) (q:=[false]) (v:=(.agg [.nums 12 (wm G1K.K1 (seg 0 6 x) BW++wr G1K.K1 (seg 6 6 x)),.nm (.bl false)])) (obs:=[false=false]) 1 (by kernel_rfl) (hp (rfl) trivial) (okA1 ⟨hx,trivial,trivial⟩) (by rw[ph_w,G1K.pa_den,G1K.p_den];rfl) (by simp only[List.map_cons,List.map_nil,G1K.p_den,G2K.p_den];try rfl)
 ·exact fn_outS (N:=9) X0_ok GlobD.keep Tryz.func100 [] (fun s hs=>by cases hs) (G1K.noSS hG) (args:=[.agg [.nums 12 x,.nm (.bl true)]]) (q:=[true]) (v:=(G1K.PA none)) (obs:=[true=true]) 1 (by kernel_rfl) (hp (rfl) trivial) (okA1 ⟨hx,trivial,trivial⟩) (by rw[ptv_t];rfl) (by simp only[List.map_cons,List.map_nil,G1K.p_den,G2K.p_den];try rfl))
theorem lPsi:ConG Tryz.prog GlobD 105 [.p 24] G2K.Pre0 (G2K.o1 fun x b=>G2K.PA (psA (ptv G2K.K2 x b))):=G2K.con1 (fun x b n=>G2K.pa_ok _ _) (fun x b gs=>by rw[G2K.pa_den,G2K.pa_den]) (fun x hx b w hG=>by
 cases b
 ·exact fn_outS (N:=9) X0_ok GlobD.keep Tryz.func105 [] (fun s hs=>by cases hs) (G1K.noSS hG) (args:=[.agg [.nums 24 x,.nm (.bl false)]]) (q:=[false]) (v:=(.agg [.nums 24 (F2 (gm (v2 (F2 (gc (v2 (seg 0 12 x))))) (v2 XW))++F2 (gm (v2 (F2 (gc (v2 (seg 12 12 x))))) (v2 YW))),.nm (.bl false)])) (obs:=[false=false]) 1 (by kernel_rfl) (hp (rfl) trivial) (okA1 ⟨hx,trivial,trivial⟩) (by rw[ps_w,G2K.pa_den,G2K.p_den];rfl) (by simp only[List.map_cons,List.map_nil,G1K.p_den,G2K.p_den];try rfl)
 ·exact fn_outS (N:=9) X0_ok GlobD.keep Tryz.func105 [] (fun s hs=>by cases hs) (G1K.noSS hG) (args:=[.agg [.nums 24 x,.nm (.bl true)]]) (q:=[true]) (v:=(G2K.PA none)) (obs:=[true=true]) 1 (by kernel_rfl) (hp (rfl) trivial) (okA1 ⟨hx,trivial,trivial⟩) (by rw[ptv_t];rfl) (by simp only[List.map_cons,List.map_nil,G1K.p_den,G2K.p_den];try rfl))
def TI:List (FuncId×Ent2):=[(100,entG [.p 12] G1K.Pre0 (G1K.o1 fun x b=>G1K.PA (phA (ptv G1K.K1 x b)))),(105,entG [.p 24] G2K.Pre0 (G2K.o1 fun x b=>G2K.PA (psA (ptv G2K.K2 x b)))),(103,entG [.p 12] G1K.Pre0 (G1K.o1 fun x b=>G1K.PA (negP G1K.K1.F (ptv G1K.K1 x b)))),(102,entG [.sl,.p 12] G1K.Pre0 (S12R.oM S12R.mulA)),(108,entG [.p 24] G2K.Pre0 (G2K.o1 fun x b=>G2K.PA (negP G2K.K2.F (ptv G2K.K2 x b)))),(107,entG [.sl,.p 24] G2K.Pre0 (S13R.oM S13R.mulA))]
theorem TI_ok:TOk2 Tryz.prog GlobD TI:=⟨.conG Tryz.func100 rfl (by decide) lPhi,.conG Tryz.func105 rfl (by decide) lPsi,.conG Tryz.func103 rfl (by decide) S12O.lNeg,.conG Tryz.func102 rfl (by decide) S12O.lMul,.conG Tryz.func108 rfl (by decide) S13O.lNeg,.conG Tryz.func107 rfl (by decide) S13O.lMul,trivial⟩
noncomputable def TC: List (FuncId×Ent2):=(101,entQ Tryz.prog 101 X0 9 []) :: (106,entQ Tryz.prog 106 X0 9 []) :: TI
theorem TC_ok: TOk2 Tryz.prog GlobD (TC ):=⟨.inlineQ X0_ok GlobD.keep Tryz.func101 rfl (by decide),.inlineQ X0_ok GlobD.keep Tryz.func106 rfl (by decide),TI_ok⟩
noncomputable def XC: Cx:=(((Cx.of [(24,6),(26,12)] (tb L0)).eqs [(35,12),(37,24)]).more TC).glob GL
theorem XC_ok: CxOk Tryz.prog XC GlobD:=(((cx_ok (E:=[(24,6),(26,12)]) L0 ⟨⟨G1K.eqF,G1K.gdF⟩,⟨G2K.eqF,G2K.gdF⟩,trivial⟩ (by kernel_rfl)).eqs (EM:=[(35,12),(37,24)]) ⟨⟨G1K.eqG,G1K.gdG⟩,⟨G2K.eqG,G2K.gdG⟩,trivial⟩).more TC_ok).glob GL_ok
noncomputable def TD (q:List Bool):List (FuncId×Ent2):=(99,entQ Tryz.prog 99 XC 9 q) :: (104,entQ Tryz.prog 104 XC 9 q) :: TI
theorem TD_ok (q:List Bool):TOk2 Tryz.prog GlobD (TD q):=⟨.inlineQ XC_ok GlobD.keep Tryz.func99 rfl (by decide),.inlineQ XC_ok GlobD.keep Tryz.func104 rfl (by decide),TI_ok⟩
noncomputable def XD (q:List Bool):Cx:=(((Cx.of [(24,6),(26,12)] (tb L0)).eqs [(35,12),(37,24)]).more (TD q)).glob GL
theorem XD_ok (q:List Bool):CxOk Tryz.prog (XD q) GlobD:=(((cx_ok (E:=[(24,6),(26,12)]) L0 ⟨⟨G1K.eqF,G1K.gdF⟩,⟨G2K.eqF,G2K.gdF⟩,trivial⟩ (by kernel_rfl)).eqs (EM:=[(35,12),(37,24)]) ⟨⟨G1K.eqG,G1K.gdG⟩,⟨G2K.eqG,G2K.gdG⟩,trivial⟩).more (TD_ok q)).glob GL_ok
def qL1:List Int:=[4294967296,12413508272118670338]
def qL2:List Int:=[15132376222941642752]
theorem q1_num:(num qL1).toNat=xN*xN:=by decide +kernel
theorem q2_num:(num qL2).toNat=xN:=by decide +kernel
theorem lIn1:ConG Tryz.prog GlobD 56 [.p 12] G1K.Pre0 (G1K.o1 fun x b=>.bl (inB G1K.K1 (G1K.K1.F.int 4) rN (ptv G1K.K1 x b))):=G1K.con1 (fun x b n=>trivial) (fun x b gs=>rfl) (fun x hx b w hG=>by
 cases ho:onB G1K.K1 (G1K.K1.F.int 4) (ptv G1K.K1 x b)
 ·exact fn_outS (N:=9) (XD_ok [false]) GlobD.keep Tryz.func56 [] (fun s hs=>by cases hs) (G1K.noSS hG) (args:=[.agg [.nums 12 x,.nm (.bl b)]]) (q:=[]) (v:=(.bl false)) (obs:=[2<=10000,qb false ((if onB G1K.K1 (G1K.K1.F.int 4) (ptv G1K.K1 (ptW G1K.K1 (negP G1K.K1.F (ptv G1K.K1 x b))) (ptB (negP G1K.K1.F (ptv G1K.K1 x b))))=true then (0:Int) else 120)=0)]) 1 (by kernel_rfl) (hp (by decide) (hp (by rw[im_off G1K.K1 ho];exact (by decide:¬(120:Int)=0)) trivial)) (okA1 ⟨hx,trivial,trivial⟩) (congrArg Value.bool (inB_off G1K.K1 ho).symm) (by simp only[List.map_cons,List.map_nil,G1K.p_den,G2K.p_den];try rfl)
 ·cases hi:inB G1K.K1 (G1K.K1.F.int 4) rN (ptv G1K.K1 x b)
  ·exact fn_outS (N:=9) (XD_ok [true,false]) GlobD.keep Tryz.func56 [] (fun s hs=>by cases hs) (G1K.noSS hG) (args:=[.agg [.nums 12 x,.nm (.bl b)]]) (q:=[]) (v:=(.bl false)) (obs:=[2<=10000,qb true ((if onB G1K.K1 (G1K.K1.F.int 4) (ptv G1K.K1 (ptW G1K.K1 (negP G1K.K1.F (ptv G1K.K1 x b))) (ptB (negP G1K.K1.F (ptv G1K.K1 x b))))=true then (0:Int) else 120)=0),qb false (ptW G1K.K1 (phA (ptv G1K.K1 x b))=ptW G1K.K1 (mulO G1K.K1 (G1K.K1.F.int 4) (num [4294967296,12413508272118670338]).toNat (ptv G1K.K1 (ptW G1K.K1 (negP G1K.K1.F (ptv G1K.K1 x b))) (ptB (negP G1K.K1.F (ptv G1K.K1 x b)))))/\ptB (phA (ptv G1K.K1 x b))=ptB (mulO G1K.K1 (G1K.K1.F.int 4) (num [4294967296,12413508272118670338]).toNat (ptv G1K.K1 (ptW G1K.K1 (negP G1K.K1.F (ptv G1K.K1 x b))) (ptB (negP G1K.K1.F (ptv G1K.K1 x b))))))]) 1 (by kernel_rfl) (hp (by decide) (hp (if_pos (im_on G1K.K1 ho)) (hp (by rw[show (num [4294967296,12413508272118670338]).toNat=xN*xN from q1_num];exact fun k=>Bool.false_ne_true (hi.symm.trans ((in_sm G1K.K1 iff1 ho).2 k))) trivial))) (okA1 ⟨hx,trivial,trivial⟩) rfl (by simp only[List.map_cons,List.map_nil,G1K.p_den,G2K.p_den];try rfl)
  ·exact fn_outS (N:=9) (XD_ok [true,true]) GlobD.keep Tryz.func56 [] (fun s hs=>by cases hs) (G1K.noSS hG) (args:=[.agg [.nums 12 x,.nm (.bl b)]]) (q:=[]) (v:=(.bl true)) (obs:=[2<=10000,qb true ((if onB G1K.K1 (G1K.K1.F.int 4) (ptv G1K.K1 (ptW G1K.K1 (negP G1K.K1.F (ptv G1K.K1 x b))) (ptB (negP G1K.K1.F (ptv G1K.K1 x b))))=true then (0:Int) else 120)=0),qb true (ptW G1K.K1 (phA (ptv G1K.K1 x b))=ptW G1K.K1 (mulO G1K.K1 (G1K.K1.F.int 4) (num [4294967296,12413508272118670338]).toNat (ptv G1K.K1 (ptW G1K.K1 (negP G1K.K1.F (ptv G1K.K1 x b))) (ptB (negP G1K.K1.F (ptv G1K.K1 x b)))))/\ptB (phA (ptv G1K.K1 x b))=ptB (mulO G1K.K1 (G1K.K1.F.int 4) (num [4294967296,12413508272118670338]).toNat (ptv G1K.K1 (ptW G1K.K1 (negP G1K.K1.F (ptv G1K.K1 x b))) (ptB (negP G1K.K1.F (ptv G1K.K1 x b))))))]) 1 (by kernel_rfl) (hp (by decide) (hp (if_pos (im_on G1K.K1 ho)) (hp (by rw[show (num [4294967296,12413508272118670338]).toNat=xN*xN from q1_num];exact (in_sm G1K.K1 iff1 ho).1 hi) trivial))) (okA1 ⟨hx,trivial,trivial⟩) rfl (by simp only[List.map_cons,List.map_nil,G1K.p_den,G2K.p_den];try rfl))
theorem lIn2:ConG Tryz.prog GlobD 57 [.p 24] G2K.Pre0 (G2K.o1 fun x b=>.bl (inB G2K.K2 G2K.bb rN (ptv G2K.K2 x b))):=G2K.con1 (fun x b n=>trivial) (fun x b gs=>rfl) (fun x hx b w hG=>by
 cases ho:onB G2K.K2 G2K.bb (ptv G2K.K2 x b)
 ·exact fn_outS (N:=9) (XD_ok [false]) GlobD.keep Tryz.func57 [] (fun s hs=>by cases hs) (G1K.noSS hG) (args:=[.agg [.nums 24 x,.nm (.bl b)]]) (q:=[]) (v:=(.bl false)) (obs:=[1<=10000,qb false ((if onB G2K.K2 G2K.bb (ptv G2K.K2 (ptW G2K.K2 (negP G2K.K2.F (ptv G2K.K2 x b))) (ptB (negP G2K.K2.F (ptv G2K.K2 x b))))=true then (0:Int) else 120)=0)]) 1 (by kernel_rfl) (hp (by decide) (hp (by rw[im_off G2K.K2 ho];exact (by decide:¬(120:Int)=0)) trivial)) (okA1 ⟨hx,trivial,trivial⟩) (congrArg Value.bool (inB_off G2K.K2 ho).symm) (by simp only[List.map_cons,List.map_nil,G1K.p_den,G2K.p_den];try rfl)
 ·cases hi:inB G2K.K2 G2K.bb rN (ptv G2K.K2 x b)
  ·exact fn_outS (N:=9) (XD_ok [true,false]) GlobD.keep Tryz.func57 [] (fun s hs=>by cases hs) (G1K.noSS hG) (args:=[.agg [.nums 24 x,.nm (.bl b)]]) (q:=[]) (v:=(.bl false)) (obs:=[1<=10000,qb true ((if onB G2K.K2 G2K.bb (ptv G2K.K2 (ptW G2K.K2 (negP G2K.K2.F (ptv G2K.K2 x b))) (ptB (negP G2K.K2.F (ptv G2K.K2 x b))))=true then (0:Int) else 120)=0),qb false (ptW G2K.K2 (psA (ptv G2K.K2 x b))=ptW G2K.K2 (mulO G2K.K2 G2K.bb (num [15132376222941642752]).toNat (ptv G2K.K2 (ptW G2K.K2 (negP G2K.K2.F (ptv G2K.K2 x b))) (ptB (negP G2K.K2.F (ptv G2K.K2 x b)))))/\ptB (psA (ptv G2K.K2 x b))=ptB (mulO G2K.K2 G2K.bb (num [15132376222941642752]).toNat (ptv G2K.K2 (ptW G2K.K2 (negP G2K.K2.F (ptv G2K.K2 x b))) (ptB (negP G2K.K2.F (ptv G2K.K2 x b))))))]) 1 (by kernel_rfl) (hp (by decide) (hp (if_pos (im_on G2K.K2 ho)) (hp (by rw[show (num [15132376222941642752]).toNat=xN from q2_num];exact fun k=>Bool.false_ne_true (hi.symm.trans ((in_sm G2K.K2 iff2 ho).2 k))) trivial))) (okA1 ⟨hx,trivial,trivial⟩) rfl (by simp only[List.map_cons,List.map_nil,G1K.p_den,G2K.p_den];try rfl)
  ·exact fn_outS (N:=9) (XD_ok [true,true]) GlobD.keep Tryz.func57 [] (fun s hs=>by cases hs) (G1K.noSS hG) (args:=[.agg [.nums 24 x,.nm (.bl b)]]) (q:=[]) (v:=(.bl true)) (obs:=[1<=10000,qb true ((if onB G2K.K2 G2K.bb (ptv G2K.K2 (ptW G2K.K2 (negP G2K.K2.F (ptv G2K.K2 x b))) (ptB (negP G2K.K2.F (ptv G2K.K2 x b))))=true then (0:Int) else 120)=0),qb true (ptW G2K.K2 (psA (ptv G2K.K2 x b))=ptW G2K.K2 (mulO G2K.K2 G2K.bb (num [15132376222941642752]).toNat (ptv G2K.K2 (ptW G2K.K2 (negP G2K.K2.F (ptv G2K.K2 x b))) (ptB (negP G2K.K2.F (ptv G2K.K2 x b)))))/\ptB (psA (ptv G2K.K2 x b))=ptB (mulO G2K.K2 G2K.bb (num [15132376222941642752]).toNat (ptv G2K.K2 (ptW G2K.K2 (negP G2K.K2.F (ptv G2K.K2 x b))) (ptB (negP G2K.K2.F (ptv G2K.K2 x b))))))]) 1 (by kernel_rfl) (hp (by decide) (hp (if_pos (im_on G2K.K2 ho)) (hp (by rw[show (num [15132376222941642752]).toNat=xN from q2_num];exact (in_sm G2K.K2 iff2 ho).1 hi) trivial))) (okA1 ⟨hx,trivial,trivial⟩) rfl (by simp only[List.map_cons,List.map_nil,G1K.p_den,G2K.p_den];try rfl))
end S14O
end Go.Proofs.YtjamcbjghffboaaGreatDoor
