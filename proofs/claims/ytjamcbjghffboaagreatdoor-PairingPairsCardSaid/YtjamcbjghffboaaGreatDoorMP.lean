/-
  Own text.
-/
import Derived.Test.YtjamcbjghffboaaGreatDoorMOrd
import Derived.Test.YtjamcbjghffboaaGreatDoorMEc
import Derived.Test.YtjamcbjghffboaaGreatDoorMK
set_option linter.unusedVariables false
set_option linter.unusedSectionVars false
namespace Go.Proofs.YtjamcbjghffboaaGreatDoor
namespace Pk
set_option maxRecDepth 100000
open Go Ring Ab Ec Fp Fp2 Fp6 Fp12 Frob
def gpf:Nat->G->Nat->G
 |0,_,_=>(1,0)
 |f+1,b,n=>if n=0 then (1,0) else if n%2=1 then Ord2.red (gm (Ord2.red (gm (gpf f b (n/2)) (gpf f b (n/2)))) b) else Ord2.red (gm (gpf f b (n/2)) (gpf f b (n/2)))
theorem red_eq (a:G):E2 (Ord2.red a) a:=⟨Int.emod_emod _ _,Int.emod_emod _ _⟩
theorem gpf_ok (b:G):∀f n,n<2^f->E2 (gpf f b n) (gp b n)
 |0,n,h=>by
  obtain rfl:n=0:=by omega
  exact E2.rfl
 |f+1,n,h=>by
  unfold gpf
  by_cases h0:n=0
  ·rw[if_pos h0]
   subst h0
   exact E2.rfl
  ·rw[if_neg h0]
   have ih:=gpf_ok b f (n/2) (by rw[Nat.pow_succ] at h;omega)
   have e:=Nat.div_add_mod n 2
   have h2:E2 (Ord2.red (gm (gpf f b (n/2)) (gpf f b (n/2)))) (gp b (n/2+n/2)):=by
    rw[gp_add]
    exact (red_eq _).trans (gm_congr ih ih)
   by_cases hd:n%2=1
   ·rw[if_pos hd]
    have e1:gp b n=gm (gp b (n/2+n/2)) b:=by
     conv=>lhs;rw[show n=n/2+n/2+1 by omega]
     rfl
    rw[e1]
    exact (red_eq _).trans (gm_congr h2 E2.rfl)
   ·rw[if_neg hd]
    have e1:gp b n=gp b (n/2+n/2):=by
     conv=>lhs;rw[show n=n/2+n/2 by omega]
    rw[e1]
    exact h2
def bx:G:=(0x24aa2b2f08f0a91260805272dc51051c6e47ad4fa403b02b4510b647ae3d1770bac0326a805bbefd48056c8c121bdb8,0x13e02b6052719f607dacd3a088274f65596bd0d09920b61ab5da61bbdc7f5049334cf11213945d57e5ac7d055d042b7e)
def by_:G:=(0xce5d527727d6e118cc9cdc6da2e351aadfd9baa8cbdd3a76d429a695160d12c923ac9cc3baca289e193548608b82801,0x606c4a02ea734cc32acd2b02bc28b99cb3e287e85a763af267492ab572e99ab3f370d275cec1da1aaa9075ff05f79be)
theorem on_b:OnP FG (4,4) (some (bx,by_)):=by
 show FG.Z _
 decide +kernel
def xx:Nat:=15132376222941642752
def lsK (a:K):K:=Fp12.kc (Fp12.kp a xx)
def hK (f:K):K:=Fp12.km (Frob.ph (Frob.ph (Fp12.km (Fp12.kc f) (Fp12.ki f)))) (Fp12.km (Fp12.kc f) (Fp12.ki f))
def x3:Nat:=0x396c8c005555e1568c00aaab0000aaab
def bK (a:K):K:=Fp12.km (lsK a) (Frob.ph a)
def cK (b:K):K:=Fp12.km (Fp12.km (lsK (lsK b)) (Frob.ph (Frob.ph b))) (Fp12.kc b)
def finK (f:K):K:=Fp12.km (cK (bK (Fp12.kp (hK f) x3))) (hK f)
theorem ls_c {a b:K}(h:E12 a b):E12 (lsK a) (lsK b):=Fp12.kc_congr (kp_congr h xx)
theorem h_c {a b:K}(h:E12 a b):E12 (hK a) (hK b):=Fp12.km_congr (ph_congr (ph_congr (Fp12.km_congr (Fp12.kc_congr h) (ki_congr h)))) (Fp12.km_congr (Fp12.kc_congr h) (ki_congr h))
theorem b_c {a b:K}(h:E12 a b):E12 (bK a) (bK b):=Fp12.km_congr (ls_c h) (ph_congr h)
theorem c_c {a b:K}(h:E12 a b):E12 (cK a) (cK b):=Fp12.km_congr (Fp12.km_congr (ls_c (ls_c h)) (ph_congr (ph_congr h))) (Fp12.kc_congr h)
theorem fin_c {a b:K}(h:E12 a b):E12 (finK a) (finK b):=Fp12.km_congr (c_c (b_c (kp_congr (h_c h) x3))) (h_c h)
theorem k1_nz:¬Z12 k1:=fun h=>absurd h.1.1.1 (by decide +kernel)
theorem kc_k1:Fp12.kc k1=k1:=by decide +kernel
theorem ki_k1:E12 (Fp12.ki k1) k1:=by
 have h:=km_ki k1_nz
 rwa [km_one'] at h
theorem ph_k1:Frob.ph k1=k1:=kp_k1 _
theorem h_k1:E12 (hK k1) k1:=by
 have g:E12 (Fp12.km (Fp12.kc k1) (Fp12.ki k1)) k1:=by
  rw[kc_k1,km_one']
  exact ki_k1
 have h:=Fp12.km_congr (ph_congr (ph_congr g)) g
 rw[ph_k1,ph_k1,km_one'] at h
 exact h
theorem ls_k1:lsK k1=k1:=by rw[lsK,kp_k1,kc_k1]
theorem fin_k1:E12 (finK k1) k1:=by
 have h1:=kp_congr h_k1 x3
 rw[kp_k1] at h1
 have h2:=b_c h1
 rw[show bK k1=k1 by rw[bK,ls_k1,ph_k1,km_one']] at h2
 have h3:=c_c h2
 rw[show cK k1=k1 by rw[cK,ls_k1,ls_k1,ph_k1,ph_k1,kc_k1,km_one',km_one']] at h3
 have h:=Fp12.km_congr h3 h_k1
 rw[km_one'] at h
 exact h
def LK (l x y:G)(p q:Int):K:=((gs (gm l x) y,gn (gk l p),(0,0)),((0,0),(q,0),(0,0)))
def VK (x:G)(p:Int):K:=((x,(-p,0),(0,0)),((0,0),(0,0),(0,0)))
theorem lk_c {l l' x x' y y':G}(h:E2 l l')(k:E2 x x')(j:E2 y y')(p q:Int):E12 (LK l x y p q) (LK l' x' y' p q):=⟨⟨gs_congr (gm_congr h k) j,gn_congr (gk_congr h rfl),E2.rfl⟩,E6.rfl⟩
instance decZG:DecidablePred FG.Z:=fun a=>inferInstanceAs (Decidable (a.1%PP=0/\a.2%PP=0))
def stK (X Y:Int):Pt G->Pt G->K
 |none,_=>k1
 |some _,none=>k1
 |some (x1,y1),some (x2,y2)=>if FG.Z (FG.sub x1 x2) then (if FG.Z (FG.sub y1 y2)/\¬FG.Z y1 then LK (slT FG x1 y1) x1 y1 X Y else VK x1 X) else LK (slC FG x1 y1 x2 y2) x1 y1 X Y
def rK (a:K):K:=((Ord2.red a.1.1,Ord2.red a.1.2.1,Ord2.red a.1.2.2),(Ord2.red a.2.1,Ord2.red a.2.2.1,Ord2.red a.2.2.2))
theorem rK_eq (a:K):E12 (rK a) a:=⟨⟨red_eq _,red_eq _,red_eq _⟩,red_eq _,red_eq _,red_eq _⟩
def mR (a b:K):K:=rK (Fp12.km a b)
theorem mR_eq {a b a' b':K}(h:E12 a a')(k:E12 b b'):E12 (mR a b) (Fp12.km a' b'):=(rK_eq _).trans (Fp12.km_congr h k)
def okS (l x1 y1 x2 y2:G):Bool:=decide (FG.Z (FG.sub (FG.sub y1 y2) (FG.mul l (FG.sub x1 x2))))&&(decide (FG.Z (FG.sub (FG.mul l (FG.add y1 y2)) (FG.add (FG.add (FG.mul x1 x1) (FG.mul x1 x2)) (FG.mul x2 x2))))&&!(decide (FG.Z (FG.sub x1 x2))&&decide (FG.Z (FG.add y1 y2))))
theorem okS_ok {l x1 y1 x2 y2:G}(h:okS l x1 y1 x2 y2=true):Slope FG l x1 y1 x2 y2/\¬Opp FG x1 y1 x2 y2:=by
 simp only[okS,Bool.and_eq_true,Bool.not_eq_true',Bool.and_eq_false_iff,decide_eq_true_eq,decide_eq_false_iff_not] at h
 exact⟨⟨h.1,h.2.1⟩,fun k=>h.2.2.elim (fun e=>e k.1) (fun e=>e k.2)⟩
def nx3 (l x1 x2:G):G:=Ord2.red (Xs FG l x1 x2)
def ny3 (l x1 y1 x3:G):G:=Ord2.red (Ys FG l x1 y1 x3)
theorem sum3 {l x1 y1 x2 y2:G}(h:okS l x1 y1 x2 y2=true):Ec.Sum FG (some (x1,y1)) (some (x2,y2)) (some (nx3 l x1 x2,ny3 l x1 y1 (nx3 l x1 x2))):=
 .sl (okS_ok h).2 (okS_ok h).1 (FG.symm (Ord2.hred _)) (FG.symm (Ord2.hred _))
def okK (f:K):Bool:=decide (f.1.1.1%PP=f.1.1.1)&&(decide (f.1.1.2%PP=f.1.1.2)&&(decide (f.1.2.1.1%PP=f.1.2.1.1)&&(decide (f.1.2.1.2%PP=f.1.2.1.2)&&(decide (f.1.2.2.1%PP=f.1.2.2.1)&&(decide (f.1.2.2.2%PP=f.1.2.2.2)&&(decide (f.2.1.1%PP=f.2.1.1)&&(decide (f.2.1.2%PP=f.2.1.2)&&(decide (f.2.2.1.1%PP=f.2.2.1.1)&&(decide (f.2.2.1.2%PP=f.2.2.1.2)&&(decide (f.2.2.2.1%PP=f.2.2.2.1)&&decide (f.2.2.2.2%PP=f.2.2.2.2)))))))))))
def run (X Y:Int)(bx by_:G):List (G×Option G)->K->G->G->Option K
 |[],f,_,_=>some f
 |(l,none) :: r,f,x,y=>if (okK f&&okS l x y x y)=true then run X Y bx by_ r (mR (mR f f) (LK l x y X Y)) (nx3 l x x) (ny3 l x y (nx3 l x x)) else none
 |(l,some m) :: r,f,x,y=>if (okK f&&okS l x y x y)=true then (if okS m (nx3 l x x) (ny3 l x y (nx3 l x x)) bx by_=true then run X Y bx by_ r (mR (mR (mR f f) (LK l x y X Y)) (LK m (nx3 l x x) (ny3 l x y (nx3 l x x)) X Y)) (nx3 m (nx3 l x x) bx) (ny3 m (nx3 l x x) (ny3 l x y (nx3 l x x)) (nx3 m (nx3 l x x) bx)) else none) else none
def frR (a:K):K:=rK ((gc (Ord2.red a.1.1),Ord2.red (gm (gc a.1.2.1) (0,0x1a0111ea397fe699ec02408663d4de85aa0d857d89759ad4897d29650fb85f9b409427eb4f49fffd8bfd00000000aaac)),Ord2.red (gm (gc a.1.2.2) (0x1a0111ea397fe699ec02408663d4de85aa0d857d89759ad4897d29650fb85f9b409427eb4f49fffd8bfd00000000aaad,0))),(Ord2.red (gm (gc a.2.1) (0x1904d3bf02bb0667c231beb4202c0d1f0fd603fd3cbd5f4f7b2443d784bab9c4f67ea53d63e7813d8d0775ed92235fb8,0xfc3e2b36c4e03288e9e902231f9fb854a14787b6c7b36fec0c8ec971f63c5f282d5ac14d6c7ec22cf78a126ddc4af3)),Ord2.red (gm (gc a.2.2.1) (0x6af0e0437ff400b6831e36d6bd17ffe48395dabc2d3435e77f76e17009241c5ee67992f72ec05f4c81084fbede3cc09,0x6af0e0437ff400b6831e36d6bd17ffe48395dabc2d3435e77f76e17009241c5ee67992f72ec05f4c81084fbede3cc09)),Ord2.red (gm (gc a.2.2.2) (0x5b2cfd9013a5fd8df47fa6b48b1e045f39816240c0b8fee8beadf4d8e9c0566c63a3e6e257f87329b18fae980078116,0x144e4211384586c16bd3ad4afa99cc9170df3560e77982d0db45f3536814f0bd5871c1908bd478cd1ee605167ff82995))))
theorem gam_lit:E2 gam (0x1904d3bf02bb0667c231beb4202c0d1f0fd603fd3cbd5f4f7b2443d784bab9c4f67ea53d63e7813d8d0775ed92235fb8,0xfc3e2b36c4e03288e9e902231f9fb854a14787b6c7b36fec0c8ec971f63c5f282d5ac14d6c7ec22cf78a126ddc4af3):=(gpf_ok (1,1) 380 tt (by decide +kernel)).symm.trans (by show _/\_;decide +kernel)
theorem gam_n (n:Nat):E2 (gp gam n) (gp (0x1904d3bf02bb0667c231beb4202c0d1f0fd603fd3cbd5f4f7b2443d784bab9c4f67ea53d63e7813d8d0775ed92235fb8,0xfc3e2b36c4e03288e9e902231f9fb854a14787b6c7b36fec0c8ec971f63c5f282d5ac14d6c7ec22cf78a126ddc4af3) n):=gp_congr gam_lit n
theorem frR_eq (a:K):E12 (frR a) (Frob.ph a):=by
 refine (rK_eq _).trans (E12.trans ?_ (ph_fr a).symm)
 have g (n:Nat) (w:G) (h:E2 w (gp (0x1904d3bf02bb0667c231beb4202c0d1f0fd603fd3cbd5f4f7b2443d784bab9c4f67ea53d63e7813d8d0775ed92235fb8,0xfc3e2b36c4e03288e9e902231f9fb854a14787b6c7b36fec0c8ec971f63c5f282d5ac14d6c7ec22cf78a126ddc4af3) n)) (z:G):E2 (Ord2.red (gm (gc z) w)) (gm (gc z) (gp gam n)):=(red_eq _).trans (gm_congr E2.rfl (h.trans (gam_n n).symm))
 exact⟨⟨gc_congr (red_eq _),g 2 _ (by show _/\_;decide +kernel) _,g 4 _ (by show _/\_;decide +kernel) _⟩,g 1 _ (by show _/\_;decide +kernel) _,g 3 _ (by show _/\_;decide +kernel) _,g 5 _ (by show _/\_;decide +kernel) _⟩
def kpR:Nat->K->Nat->K
 |0,_,_=>k1
 |f+1,b,n=>if n=0 then k1 else if n%2=1 then mR (mR (kpR f b (n/2)) (kpR f b (n/2))) b else mR (kpR f b (n/2)) (kpR f b (n/2))
theorem kpR_ok (b:K):∀f n,n<2^f->E12 (kpR f b n) (Fp12.kp b n)
 |0,n,h=>by
  obtain rfl:n=0:=by omega
  exact E12.rfl
 |f+1,n,h=>by
  unfold kpR
  by_cases h0:n=0
  ·rw[if_pos h0]
   subst h0
   exact E12.rfl
  ·rw[if_neg h0]
   have ih:=kpR_ok b f (n/2) (by rw[Nat.pow_succ] at h;omega)
   have h2:E12 (mR (kpR f b (n/2)) (kpR f b (n/2))) (Fp12.kp b (n/2+n/2)):=by
    rw[kp_add]
    exact mR_eq ih ih
   by_cases hd:n%2=1
   ·rw[if_pos hd]
    have e1:Fp12.kp b n=Fp12.km (Fp12.kp b (n/2+n/2)) b:=by
     conv=>lhs;rw[show n=n/2+n/2+1 by omega]
     rfl
    rw[e1]
    exact mR_eq h2 E12.rfl
   ·rw[if_neg hd]
    have e1:Fp12.kp b n=Fp12.kp b (n/2+n/2):=by
     conv=>lhs;rw[show n=n/2+n/2 by omega]
    rw[e1]
    exact h2
def lsR (a:K):K:=rK (Fp12.kc (kpR 64 a xx))
def hR (f i:K):K:=mR (frR (frR (mR (Fp12.kc f) i))) (mR (Fp12.kc f) i)
def bR (a:K):K:=mR (lsR a) (frR a)
def cR (b:K):K:=mR (mR (lsR (lsR b)) (frR (frR b))) (Fp12.kc b)
def finR (f i:K):K:=mR (cR (bR (kpR 127 (hR f i) x3))) (hR f i)
theorem lsR_eq {a b:K}(h:E12 a b):E12 (lsR a) (lsK b):=(rK_eq _).trans <| Fp12.kc_congr ((kpR_ok a 64 xx (by decide +kernel)).trans (kp_congr h xx))
theorem frR_c {a b:K}(h:E12 a b):E12 (frR a) (Frob.ph b):=(frR_eq a).trans (ph_congr h)
theorem finR_eq {f i:K}(h:E12 i (Fp12.ki f)):E12 (finR f i) (finK f):=by
 have g:=mR_eq (E12.rfl (p:=Fp12.kc f)) h
 have h1:E12 (hR f i) (hK f):=mR_eq (frR_c (frR_c g)) g
 have h2:E12 (kpR 127 (hR f i) x3) (Fp12.kp (hK f) x3):=(kpR_ok _ 127 x3 (by decide +kernel)).trans (kp_congr h1 x3)
 have h3:E12 (bR (kpR 127 (hR f i) x3)) (bK (Fp12.kp (hK f) x3)):=mR_eq (lsR_eq h2) (frR_c h2)
 have h4:E12 (cR (bR (kpR 127 (hR f i) x3))) (cK (bK (Fp12.kp (hK f) x3))):=mR_eq (mR_eq (lsR_eq (lsR_eq h3)) (frR_c (frR_c h3))) (Fp12.kc_congr h3)
 exact mR_eq h4 h1
def x0_:Int:=0x17f1d3a73197d7942695638c4fa9ac0fc3688c4f9774b905a14e3a3f171bac586c55e83ff97a1aeffb3af00adb22c6bb
def y0_:Int:=0x8b3f481e3aaa0f1a09e30ed741d8ae4fcf5e095d5d00af600db18cb2c04b3edd03cc744a2888ae40caa232946c5e7e1
def dd:List (G×Option G):=[((0x15a76ee3d8d1c3451005d56067cd27cf7598a85f81c23cd926ad0ec05ad6440f1df034cf36701a5831c9fb39250e2ea9,0x16d96e785c797fb5d6afcb1400d7656829a6a71c42deb7ddce5cd2ccda4704dc0e4b92b69009367bbf6e6aa19488df66),some (0x14b92565b748c30f253912c6cf3aaa45c2b370e810ea9361db7b84172cb1e68ddd09eb1296e0f84058018a4538d64e8b,0x3c50d0829bdc305ff694cc9bf914addbdcbe307142bf7cc7b8d9115b96656327dd7978009cdcddf4728a38086aebcd7)),((0x56ceab5d5d994dee0ca07fc0d41aa908b1a833b94e768d2dec05cffe4a869aed2a64ee86a72f085ee4e78bd4c2aef8e,0x39b596a976f556e5ea4016a3111e14b674a67295a242cf3b343a6878db6ec20bcac1275d23aad6cd3e84e398a4e7bc8),none),((0x6e3ef02d1a04e74ab468f6e04f007b067140de16796e93717f97204641356999f8abc87a7d6c3a51d2dc5c2080aa3d,0x1bd56d5682c8e27f4e58d1fe16609b948cecacbf47561314d3adbfd218516e28b5be780d59a6e961956b585b6151749),some (0x8ecc09a9c1f157a41ff8574dbd225e6d360104b08b70bcde984dbdeecb87e54d15afa1ad4d82ecc86926478060abf07,0x1459dcc20ccec09d6ac723641fbd91572a9f1c1cccb841f8f081b995baf77ded82e6c1ee979b5618adb99987cc3e887f)),((0x75707a467e7543c28370330bea9b6e4adf41fa1060713eedb760c98b7aad959e5dfc28db5abe92a46d0ff04a4205803,0x14061839f139644bb20e864718cfc9c1ee8960c06ff2c240598a8a6da7ed2bcc091f594d8b0715d2f6a16be8d5828197),none),((0x1deabfaeb3374b50119ecb98148910d6004895792caa88dad948685eedfe9d3ac7315ff9bd8fa7a943e0e3a924e7492,0x7c9b05e8adef4de506459f7be98bf07cbd25fe6f4ac154f7c01f5d8a4b9368fc9cbb8ebfedf28954ae85d6e9f58c709),none),((0xee6eb50b6c77d09551c6a60826f728738a490c04918351790b28f2aca89efec977f5d8be5ab1530cd829c00c02bb5ad,0xfe2b8fdab71a2b128d2ad1b08e43b756d77e33ad8d6a444a32fb2ef9c6d1098adde218e3fb06d66bf9f7d4b7015a6b4),some (0x14bf838fa391c4a090ebbbe743ae2a27fa167025d88ff625b3bef3953ab3e70c52b7f1fa0e81fa12d05c20409b6ab80d,0xf45e1251275798ebc25a384129e9223de8b300c58513dc4d4e26bb101a87dc37eb1f2ad58f5ce986c824b89b843b64e)),((0x15f5f0afe4eeb7545fb13eb055c6ad903c2a3e4b9f14a8dae81217db1696daa3753ccd844396189ffbd89d01fe27fa5b,0x1040f087e9a0b6633fa13692b8f5f46e2bd5fc15d81b368ac9d2464eda778b0051c1027ed3da9931ffbf361f326b7282),none),((0xf10733fed03fc5b7ae27fc457630dce3b4db45cbad696a6351c7771105a0a1096dd87f04527a34a70ec377ccd63a5b2,0x855b8b1eedbf578f7498f370324634590aee6093dd239d9306991a8af53fac94e1e9b5253a208df401e3d6bf657857c),none),((0x17900cb270764782b3eca3d2ec46a86181ef1ff2f83172010bc299acce5e8da96b6b932d6c92af226aa27e2cbe8fae21,0x1be7df7094ce56532653ce2da33c37fe337917d32826e1bd09104615d27b1dba405157c82358801a5440afa7826f03e),none),((0x15ed1256df8e5e5ca95b56c878630a1ca624fae6d5770503fc7cd3706f331af3de61fabf6cf96397e7b79f2fc8c8275d,0xf5886abb33616f07cfac605cd5194bd83d804f9da8e5cdaffa3eb442aaeb1342a8a3887ee76aa06cc2a711c9ed0f30e),none),((0x249a870907df1494e56fc219e01fde22386755f816c125f4c2cdefe8611811647fac337765ce308dd13ea9ec917f81d,0xa59546d0d9d0d18614e98790bdde01f23d77cc2219a64e16678659f6f9ca9e64f594e30c3cd52b28123518842661348),none),((0x3ca74026cf32fba56ec4ffaf56bfc4d589fd5479b90e9a3832640fbf5ff16fd5c8661358f86bbd730aa1df76e95257,0x16f491b5bd383da7e70c0012e06dce324741a7e96cd8fccf402fb94e1c54fc0073a49b0577775e0ba37cd47da598900),none),((0x9a76bae205af60fb63330d38d4d0d00c4d2739ae3a0b1763a9bcdec2fe60921bf629abd453bf5d35812bbf0123c972a,0x79042a88c84c694ffd3fa1257cfc1f1da9301aff5ef309c649bf53444907381a7d0f976a5e2fc320bd337a5e6bf6e59),none),((0x135ff64b4d73a3a2d0f886b2eb84e8fad6b7625c837aa2728eeaf2f380047dfe3a21b11ba36890bfc74afe64e9f3840c,0xcc7efdc19164223dbcb0b43e4ee3c4f4c650fbfe5a0a3700cd16a519987e4aabf6bd8d16fa3e40ac2853a97b01176dd),none),((0x148a5374166cf336bdfb590ab3e98a0f2d52eb1fc8addbd73d021e6c59ff8b91a8fb6bd02a0d320eaaf52d68933508fe,0xfbfa5d5aa28b0148c5da91a16d59eff4dc469e9a00aa1e6c9128ca3eaf8fb765006eba3df1bbeb0847972fc9cc9f5ae),some (0xd75df1478e683d022e71dda20b2ee156e2703ab722d3d6699c526b1363aa3d7edf86279a9db8b55b3ee3937fc331282,0xf657335d9eabb7551b40995f1aed0135a3006438f62b0aa29f3faebba16ed6dc4cf9025d255e0b22ef5ea34500caaa1)),((0x1137f470c8f7d00baa56e5c03e76ea8acb143c96671cbc65033e67ed9f2b5e180252357114e4f467f4709129c1d6d6d7,0xf23701cea5719c6d8b0d3f3bc8572953d8f42a55fe9970085a5304db0b3422f71d7ac93a2a95cfa92d0088ab1308e85),none),((0x373d7203575fda92e7b4b0239b7c7695d2524211d5341f332c9317a9c538a1808d10350e8ab375f9e79671f77c33b38,0x7b03ee28e327f04166f5075f657d148ed56fbf731787b28e9d5746328bce07da2a04f4154a74ef22bb2c45a0f0992be),none),((0x18b70eb629a79ff3f983498518b16faf0521c1c5a11c352341629374ff0d1ac17362c7944d2b6e4cdcfd83a0692003b0,0x11fa0abe9f21dc673b14d9174289133e7279c670978cd5690526f609b923d7ba3b37b63cf6dd615a649c30b33d8b88ac),none),((0x2fc21e36ad4d0da0a00add9bd428c9c44f9a83980265ddd5cac54906e73bae3b43599982d6310ed50636162786d1b75,0x2b70c4ecc512e5b7a263f208e2d6c8495568d22744ab3f376045a0b6f715c18ef69c37a80e8a4f63bb295c1f909c9f8),none),((0x10b916005fc2476498beed417afa88358fa085d4db1d9e6f864b49b4b96dc11dcb31a6b2f313b674fee5c83040549617,0x185827ff9e3c833ac46e1e1674a0ba0ae49290dd243bdc6145d1d4d76b0b03b8d7da125b0a5f1bacd2bc2f38d4e1a34d),none),((0x1274aa625858db0bb675b3bfaf508b2248a1fe6ffc5d18d0da3e0d01e0bbb52a301585cf3ce32e18da41a2016fbf41b1,0xcd9b76612194b440cbd9c67af3784151a3a1a7585c177cf0df8603dfa938bc22d0aa98e4cbc0be362614fff6f6d4898),none),((0x232f7c41bf2d0ca9a4a656040864a9ec51fc3fceddf7498e96b0c22d39fbbbe7f55d6bc35a50965750c7716c237772d,0x126b7366a9ba4cdc1648b905eb2d53ffa24eaa0527809305911e6efcf7cc8f0983f3a122ebd5d6880bc93e525c5283bd),none),((0x3c52126f27d2dd758ab077088f758a89df448c1dd45282d9c2237332a12d63f617991e090b1d3aaedd7ae3ae5ef62ec,0x19ee364564c01cbdf0bd4257877b0d7e053d12f91fa49c91b79fc38b4398e2af5a4ac3f48bf85f2a28b11ffbcc48f29d),none),((0x287b1e39767a3c2d102a8257d4c97a8e9d64c41cf2dffa1ce9896e5addb637375420be149369971c3fc33245bb7b9cb,0xdccc3a8b263abdc2c1112a2ba4e1537236425a49e10a76b09b6128f5e000427659557e16f6e6c10c2da68b535025ac5),none),((0xeba32ca0fdf04b16e700d02d09be055097f3f4285b74b299e633711f24267eeff96b84c9658e94dff575b044fd12535,0x1853f7c388088cef95618ee7fc016b0e19f5a9dafe6150af099ff3b68fe53867aeee330edac31a776bf2f2a7eb8d07b1),none),((0x10e5f821e745ef290f77339938e8c939bcfc597914fa0bc4ea7d0b2339e762ea1d7417bc1393c1940f25665663934fc8,0x14df29fafe098da44c7fd336e97eb8687dab2a2a640c57f41257c93b17f3e38108e6f373fb68057499c7406aa1ace48),none),((0x10ff70c91cbb8869a0659bf2337805ebca15d19f40277942937c0d4560eae2eee4b7ce1e54863ab6d50bc9ff4874b6e6,0x1951ff3142b9a208e5e69e5942f145b0f85554ee195ae299cddbe3decddda92adfd9039a7b3cfe640c29faece9a85e53),none),((0x15d2f6b35415870ddc7054f2e32a1465866e01898f1f3b142c02b4ccd505fbbb8d8bd06421805f763874894483dc214c,0x183abed5b2d1d128fa596426b89ca852d2ba8b3590cd530181c4e72fdd8802ef73ab15eff6749d4bc9865ee9e261110a),none),((0xab36c91eeeaabb24820b390406d92af351a91a43b294110a69e73a9a0f2894ad32c28d81f078a90be515d55a39025dd,0x1029fa62305109a4d20176b9533e34319846e866ad7ddd36f64973cbec18695bfc945495873b5a72e8ea0e7d255b970a),none),((0x8bda1d762c986632aeaca1e09c08bb4fe0abcaefc921a404b66f01a40c86e83fded68478deb02d48f2ee3be7ae899ed,0x6d4fe75b0153bdec12dba827c67f5884f061f219cb8ff55faddee2a55b5154b35e2696672be08cacb4795f5ddd8497f),none),((0x5a79df85b0a96adf6e2dab8a322ce58631513aed92ce0df838145c7842da8419fcaba0e89eec90cedffb5559d9f7cd6,0x11b7c924610a8268c34b8259fb3d98acbbe375c161f9d2a8712f911d31ea73387b467687f36133a552f9211634fe2feb),none),((0x1971f0b4a71e609b35922e78337b308d7d37a5e715e2c6a7544aef13d7757e76ac4a6a2ca05df784a5a683833d2e1464,0x503aa962b29d72a5d9f6cf2771a45a92c45f43bb070b7fd3fe5162dcc95efeedb645acb9afd8643829c2749745e919d),none),((0x1657a4b33e1400ef6e296282ea313e60d4b8240679b0175efcbc9d2df3136cbd1a372ac4bb42fc51b2f0d50a3d7a6796,0x10992497f5f8bf44511213229f6a20404576105e15a4930cab44b72c1fc2f89b5eaa0345af91b402ecc6cf1a742796cf),none),((0x16691c1bdf57ba041abb3d97c8d34c6b4580edfc55e023b1234a9695204bd44f55ea4de60e51e461db9c85f42519fea6,0xcfbf5ccb325675b1a3becefdee4fe1d3c64b3fedec5632647f7df16fff0877b21676607a81022cb0b3b0c523ae71819),none),((0xe743528ce0c94e1a76f2f6006448cecfde912a7d2029dbcc74774ca1af660eaed4d832930d36077b6d0262e218111c1,0x133d21c52017365921207d63c8fb346621601764fa91b40acd681358d077b827cc148be2e1f8a574cee0dad622d6fead),none),((0x1902b1e10713c8d95829b014d6b5d3a93563b2103c29cec1e7983befc104f7bd4886ad3a08f8bf2310745715d8e60675,0x142c2105c569b0e7aee457f14605027ef09f9b7d03fcc1c2c81c0dc22eff61dca36ea27f392c934ad398e9471a2a3e6f),none),((0x27b1b3c904791e3fa942dcd803b24ff12a9cd7524a26b87c8dd9dfb56ea54ca5c9d26e68acd42eff277e12a1c665cd8,0x162f5c264c2d2728aaa1f652ee6cbf6da2000115b0cca0d89754d630e027f9217dd0fba67a880435688221e820d4164e),none),((0x13a3cf500109646aac4d69e33e86b7943ceda2cc678e671964192efc9a09299ad173b34e4a074239eac7dc93b8113ddd,0x12f734fc3463dc7adb90dccbbaeda04445ec73fe1fd859d6076071bd0d45623a4cfe964789c20af4b5a694d4d6d9d45d),none),((0x65c82633f9d4d20c07f6ad4f79c2172e21b91ba79a5ea2dd1453a4587d6c2ca2341043e1ed40e3c2cfcc055cd4958d6,0x18a18bd0be954bbff600c7c1403276e7635ed1cd34473d3d086bc2e62775af5eae61d9aac8398341fc07277f183c17d5),none),((0x31ae02e34d7d21957899dbef96a7955cf8a3345e89477c101ffc8c27a2046327376e250e6882416d7bc0be138e4eeb2,0x1900bee131450e7d7a914ea489fb49e1a36591a6b189f964d0a0095db108dfd24e92848f148232d34a8da37b7adc99a7),none),((0x141accc8970ace156fe95a366883383b5a445ca79fc407ee3f3bd12ca9ef48ef6199a7f46231a3597b09b6d5fda5c712,0x18b35a8fd65ba4cbd734a0eea368fc9a21efabd91ace37d98ff3e0c3028ea8f24ee6fb30e0c805067330b20430c585c8),none),((0xaaafef3c4298542248b3a58135c684f9ac0e0a34315e044a7d66db543d3c6a626f79dea7ee6a5f3ce669de80b52ba42,0x13d96385b510deff2f4d1d32ee0060a937926e9b6d6adb90abac56946f0699334fa765e60e0b267ea1f8e8dc2b83d62e),none),((0xfc955cb99bde258d876019716b9fdec9340c8f3aefa561ca412df73ae5febbec296a5fb95db0469c00d953ee476c048,0x8fd02881a5331dfb0922a3b31368cfad1bcb8ef19b9d382fb88180286d20648b40806c083c7d7a804031b10c844d0cb),none),((0x5b8f08ef767ca4cf5f36622b89e509fc5decaef9cb221f15b64b681867d0f5505b9f13931f476324f857ca9daa71d3f,0xa3b4aea7c32a8fc4d9a662b03710c6daa7cac50a8ca6de8554f99004f5b1f2a21b026098f44b24a23750c8f0fa6270d),none),((0x9a64184b516425353d3342b7f1e2595a7bf3cb9644dc3a23ae401e3a2c43950dd3e14a5813cf8d46ec722731cb2e790,0xaf426e78303a8cf5a43520e362a12402d4cd3c50c5a5bc14b9c5ee3da9ae172d5612c391be4ad4c913b7f23ef8afc45),none),((0xdd9144f8c45e6091a6714d772bf4739ae7b1a8652c823a2aca6cfb5457ca1adc99138fe3c31209a4897e0f66a542078,0xda6ef8b0ede3a09d1a5c00b21acf101ca7ff6cd9129e67a30ff4bdf679bd4a2b87fa34cc8942e9d5abaeec4938f2308),none),((0xea4a92fd6a7fada6c37e836f596f65d4b4a37bb57a0834973113079387e96d6d637efa84423b0a3a6bf47efd924c3dd,0x5b7be247f2850b9608773bab9b9db45ba9d0959b3bd8de5770a36eaa83f3dcc1d95b34760a0823f91354f28328297ee),some (0x1142615b871d4c4963ef8ed842f9a579c71af04bbc4b9297c161b22f8b6c5a58a8fb3af7ec52a6b7026c9e97f3d6b0f8,0x78e5e678d7c7e2754875c536346f6c41cfb8f5fdb95af2c9163b27340c90d31ae05f3aaa202c3156a09893b72234b5e)),((0xa0bad126c265d46d51689b72d7dd2e4d3d0945ac3d9cb888b9250b2bed82359a757e1269c4a4d3c7bb2576aeac0337b,0x133a4335f59c0259f1a3ff195a51b1c4671888accdca74afa50259b7484098611c2cb9fdf65a98dff64d2a0fc947454f),none),((0xfb69c6a2cbfc9dfb9b0142745ea7f0421cb2dd4e5b4ed7b1142cd575c788d8d19a24ba9dd3830612c58d544327ca0f0,0x10635d3a601f92ab21801ab8e85be88d689d67e6e9835268f7cee1313a095fe9e31b7072875ab3c75d3a4e43d10b2503),none),((0x28a36f542a28f6997a811fc2ce6cbed2508c5d828082677745110cbba12e028cd54150ccc1f58585e1d7b5bd45c4c1f,0xac2c40f46751f043fe2833bd583e9bfd967becef21bf75f65d407bf06f076619981fe2e541d567dcc7fbea97520cd94),none),((0x125e8f976f7536a2e85ea3cfefd8d2d0063990aea5570748e35370c03766b0439ba9bc0cf8c9e8b4405badfa94226735,0xc0299d504b8b7bb5ff23b7fce15918bb8dbd901b96858640d5946aef2f36a4cb42aee9b8f2d3d1bd687824c71ce27fa),none),((0x182115eb42220d34f08e487de33ed175b6d1a029dda7c9aa05a1ef8d1d2c315dd8bc62125863cf017f4f31c0054a3612,0xfc2db9cb25d08faf7c8327f5daebc21a409de8913242d73b8d9e10bc6022a0994e39a0b90bfad204b39a3cbcac7b4),none),((0x159ff2806d40ff15099d52045de59d8956f5a84da299063ef6c216059e7a2a6b1a09d23cd53473f5ac7b5e99de412ea4,0x69a7d5ac5a38cce584e0b0f05b60b25f325eb68e4cbd45d0014e4ca22ebdbc559a20177fdccb0d7c9716c23df3ced8f),none),((0x142182d337d4bdd0a9dc0152289c80bcf75761bc030bda9dcfd112580006deba5077fd8a5edf9450f71e9104f1c374e9,0x113f465ca312058e0cd541d6b90435a9e7260873c34a0cd455f40359611c687f96c91dbee3f1affdcbbd3809a6881f8e),none),((0x10933118bcf1940615957a6c1c7bca0054ff60c0db1566767322d2c5cd33e33d6fd2e0ca2639eca99f5b1f6e6d095faa,0x14ef91f0b47d2bf1313ba159c090bf9a071c2af83528b3613d49af8c8914a7628366761443e0d74cf14359d83cc60326),none),((0x5cf357e8473bba00386d2380ef2bbb3e118498031e2471fae5017af4c09ed67c5c2e5257a3deb7872768f839060087e,0x82938f41814229b1224b32b425aed5972aa5f4b4d21ffc7a3913baa2c3f8f7499ac76a63b373a0d0a649113f5c7b2fe),none),((0x13847679c97ef8978b3f64c9ba622ef466154b88c6206dc00a65c7c83d9e863106be2e6e6acbdd11b2e3bf3c4e9a8fc7,0x5c65be3c6a8b37e95aaa4725d46595304e94133e1524dc41b86d1ea5e2cb0e5656952930a29270a27fe8eff7ff52747),none),((0x78af2f8549231aa92bba1b374d54bf4748e38d3b2c782b3c9d8a7b7d87389e25b856b97ee48f089c7a4594a201092eb,0x157a7e87571314c4eeffcc641151b627d67176b268c6b18bf425406455688e07fe496eb261acc46ca422be84be4fee75),none),((0x8f022244af0b719146e8cfb7409e84a31ef57e217e3d45daa059fc26f53a4b15d861e5d1b9ff207335fcb7b28f48654,0x72c117c18b8dfa89321c27cec88b9f86c99799b380ebac98fde2d5c9ef41c16128658961fa9d79eb0320e586c2d096a),none),((0x86675ec3781ecc255b9b8f657bd72dc32622552c01c3a14efa70797ab04d5777f18cae0d8934218abbe5eda42e0374,0x99b7b955ea60c02306dd0199067fb6cb2810aa19e5e838d4d7d18f24dc5139d8829c6be0db3cdd784259d6f00a05188),none),((0xf16056dd2e8b5f8240d4ac75aac0cfc9b43343826136afbd4f0931c31459109811008d17464425eeb75a1d3a3486fba,0x134957b7abe963c5d074abc911c5cbb3ae17332e06f5b415438805278ea9e18b001cf7daee0993ef125a22747400b5ea),none),((0x2d6c8112234d7f18ea478ea7df5eabb84672fab4d4a6e1014e0585cd696c72e9adb4736ed72eccb4e30eeaf3b992446,0x444323d14c7a3549b9f6b2738ce286aeea4511ddcb23d59ff0488c63a739029f85aec2295586dac212579b39f39df97),none),((0x65fb0c0d47de8795557bd2f9f4eb741ac78b510ccf452abbc66726ddee31b37d058d7e5bdda2d3c31051f4071ae2945,0x7f9fda3fa03c5295720441d73a813ffff40ee810a12214b0d4ee64da91ea67b8a4525b4b9c37518dd4a05df7a4d6dc1),none)]
def F0:K:=(((0x751557ccd0e568de8f2b6c9f8f0c3bcbd02d177144b44df610160b7a5c9df7b7084529642e3f9f6c6a0c093f01edb9a,0x3a018fa8cb36c23248e299ea03286248eeed1f2c477cfb32d68411a7a4c39c8741d2f067c4dd900046c11057db6c575),(0x687e3f086b7fe854eb89ec494de48b9e990f2ab5c5fe133e1208a380c74369889fb3d2a78177955e698be2dd2fb45c3,0x3acc6bf13ea3ac3b01a5c03abfef0c65cef58c07e598ffa21262310c5c2546736e1ee12c6dae45c57cf14fdb4e6267a),(0x7dda3a1efb947cc5d9b7061a85915bf24fb6353fe36d140edbff59fb68939a96ee5b7ab1a42c199edce862e308ff8f1,0x10cc233519fa1da957cef3a4a301bf377e55ec0d97992861f1b11d171adf7408eff43fd7b9da15f8b4457b89b4436c89)),((0x561a60b89349ab4c1588e00f947f89e0399f1db01e296680a8676d7a09c1aa0228137835f3785c862c07a51633e9827,0x942697638f329bab144afd26647be9054081e8cbded9967d18dc6743108dd74a3c9192e0144f5f2e49b3c2a6dcc8031),(0xb236d849561bab4b1f77b57cb239fea2be7fe053dad9633df74103a97aea745b282344eb89cefc69cef32172fd991ca,0xb72354a46c6ab3f59daa873619913479319807d21d60483fcac8615a4947d9e963d2162b242d34a16a3b267671044b2),(0xecae24d88e6a1c653c20e9a46d901d9cb46546b243182a91bfdfa4742a7e961ccf3ee8c5babca70e8635cfd91b9e4eb,0x19a1163b48107ce80131adee28ba723847b582239eb55a22663968b12bdbc72c03f16a1ccd75cc6e8b84f06847c637c6)))
def FF:K:=(((0x751557ccd0e568de8f2b6c9f8f0c3bcbd02d177144b44df610160b7a5c9df7b7084529642e3f9f6c6a0c093f01edb9a,0x3a018fa8cb36c23248e299ea03286248eeed1f2c477cfb32d68411a7a4c39c8741d2f067c4dd900046c11057db6c575),(0x687e3f086b7fe854eb89ec494de48b9e990f2ab5c5fe133e1208a380c74369889fb3d2a78177955e698be2dd2fb45c3,0x3acc6bf13ea3ac3b01a5c03abfef0c65cef58c07e598ffa21262310c5c2546736e1ee12c6dae45c57cf14fdb4e6267a),(0x7dda3a1efb947cc5d9b7061a85915bf24fb6353fe36d140edbff59fb68939a96ee5b7ab1a42c199edce862e308ff8f1,0x10cc233519fa1da957cef3a4a301bf377e55ec0d97992861f1b11d171adf7408eff43fd7b9da15f8b4457b89b4436c89)),((0x149f6bdeb04b4be589c319b54a03b43960dd59a9f1a27c575caa5bc95614db83fc2ac87b521c7a37573e85ae9cc11284,0x10bea874008cbcdf99d6f7e3dd03ee47106f2cf83597795795a30c2cc5a818af7ae2e6d0b00f0a0cd563c3d592332a7a),(0xedda465a41e2be599242c5e78280ced388f4d7fb5d77c8b87bcc2665f024ede6c29cbaff8b710391d0fcde8d02618e1,0xe8edc9ff2b93b5af140ff42e1b2998fd15dcb07d1af0e3b6a844c8b521c7885886ede9bff112cb5a35b4d9898ef65f9),(0xb362f9cb09944d3f759991bfc72aafd9930f719cf5390164b32d859b4090cc251b8117255a8358ed19ba3026e45c5c0,0x5ffbaef16f69b249e9f9c81a913a9f1cc1c96154cfb89d00f769efcad52ef81aba95e1e3de33912e7a0f97b83972e5)))
def II:K:=(((0xce727e858bbb9928346f5f63078338c7240c3c0f51d0d8fc9a8f3b8a5fed6405148c0b3b78ba0a9bc9a422e4c4bb728,0x14ce6b96183974c58f58cd74bd7c3b080f0d4de47339d2418829ee96bbbfee14c081679e859a685d4f16c798234f6b2f),(0x2451f6353159b095014fbfd0e128e40540103d69fdc7e3e95283fcebb2d1d938c54d6edccbffc7e52ee9c3e18b1e220,0xa246ca94d81b403c032955435a445a2c05098cd3889dcb11fe7e1797ee812367a710b5f31205b84f828730ca165f490),(0x26f25bfba3b1e45506f413dd9cd9a24e462e0f20df53918999da0b3fa0721e965c265cb64107666f43035a69cd7facf,0x15b7f16e466d2aa21a692e40767e3253951e28ed56b53ad4c4d8fa768411025c5d9d5d8ea3e72bf26704d14dbb508efc)),((0x16daa686938ee291e7f7713835e513aab1fef7d54f43ec7eccb4ffc7eff46a423a578e8fc64ba879517bdda4af2edc10,0x3c9fc83e51de8916e91815af575ccea25c2cc567cb6a412849e8d22237cd0ac8bd326b844b2b18872c425bd426071fb),(0x651dd6ee7bc2e6062098e91e15638b3289996920899c0527f1c5b7e606621033bc35dd2d8608a057e5f3b8c30df3067,0x1691083fbf150f499140ce7410d6b3fdf21c6215e01b028dfbd0abf4bec435744bc0f7cfd66b8eaa5ab68a126dc95e96),(0xcd98fc25794c640e713aa65ae16e37ebd51948aab0b7cf1b085c10ad4f6694ac780793023660bdfe9c47689db692fdf,0xc5c2e04db5593ea48a5e81ed9f180d8600b86d2c2a1ca1203211b4b5574453b83f26bfa9b46497811434071c02f2e8)))
theorem kc_F:E12 (Fp12.kc F0) FF:=by
 show ((_/\_)/\(_/\_)/\_/\_)/\(_/\_)/\(_/\_)/\_/\_
 decide +kernel
theorem run_dd:run x0_ y0_ bx by_ dd k1 bx by_=some F0:=by decide +kernel
theorem inv_F:E12 (Fp12.km FF II) k1:=by
 show ((_/\_)/\(_/\_)/\_/\_)/\(_/\_)/\(_/\_)/\_/\_
 decide +kernel
def HH:K:=(((0x9cfb5cdbdfb170f707acf2a119c60c7a42d9607400a07cf0a1ca6a66d678258b11fd6eef8dab538549b29fbe5e940a5,0x54010ee2fce8b2ef40ad45f69f8f34e8bff542a075af25a51b5558a3e20587f26c49ecb8f9d5e4f53502eca461a0191),(0x181b92344a97b2be5183ff569d4e788a5c265eeff42b00016ccabe069eb66045bb202f93fdff68c4a69c5a2b114983a6,0x1828b41889e6745acefd33c061bac175eff11b68853690f3fd4cf86bfa7da384d65c7694187f771c1dee96dd0e3e50ca),(0x152c9372d5c5379f2bc83de4767d582caad6d14a09b91556bcdb58f78cdc23e9726014205ca6e4daea514e835c30ffa6,0xf63c4bee282d774a5f565bff148c57d6c872f426cfa0118f3326a32e339321ba7caf65c22bac0bbc12e567aafa5e20b)),((0x55c3a150de9f27ddd94f8a9f44dff985452d80beb58d9109bbbc9b7155768c3e2ac57399be682674f77f5a593cf5fa3,0x80686fcf89ea3bea2bad2570e6882097895ea3828ad67d807349e2cf032a7c965d83e06f795f295135ab0991f958aef),(0x11f5e6bd624a29d8effc4ec21dd46d995045e66cc8657fb91a582b06bfdb925b343b9b7c279e547f8373ae7c9b601f3d,0x19aa5557f245b2ca84ed238cb32b279150dbbf88415386a23c6fb0f05f167b86bef07a74921f06bb88092a6206cc58c3),(0x832f3fef66f64b46560617243b5e38291a18c2e1c4e5c3383bfcf87b2f40996f5505d61197a00ac57ac462e389aeeb9,0x7e850bc5bf5dcb89dc030a689f045f36e464093aa549b95c3eace6873451db6cf6374a8a9c29bed19e0f3fa2899f03b)))
def AA:K:=(((0x18373d939bdfb578fa74b763fc2c7fcde9a0cd2693308aef3c262a19eead3a9dd2f0eaaa105b43d0d12aea494e0b3b09,0xbf3c57a6cc7ade98e80874383b909812c14674b5bd941f1987f5f7c5d01c6448e8f1bcbe22dd807866d46fb8428ceed),(0xa4444012e18920251e69dfd4c05a5bce502fb51a8a5a9cc8d54f7cf8f51b98a9bc814776a8f005b27a29f5f210f782a,0x68929295ba90c75b62622cda15254367b6bb8b75afac003a0253c79c9945e17cfb610e84b60f52c5a3707020d0f2036),(0xa4dbf069716b9bcc9704b2520f6761291e498711a3bf4485a6d3cb56ed801add1e0cd28dd44ca8f6a34c0ce94d03595,0x7cbd6138db6da241d03db996e8febbf9e42dba1479544fe7e102fe6ec13774ba6dff647d682c9b9166ab11438a49680)),((0x381a1b6ca71f16c0affe49dbce06a512915bd65db0bc225ff119843788569f93bf5240d64343a76b705ba2597dce510,0x22674389bc1b06e4314bd0369084a1860d109221b9aa84af17c2e204af3936fb38843af6cc4e75f7f410ebd5454ed1d),(0x12745220cc0ba9404b311b98731373da12a9aa0bd7e60cb088e90d81198d14f7355d2738de761e222387fc4f1947cf52,0x84227f1738ba956dd2250ca12598791d8bafb493f20611a87274477726f5ff30d576896fd8aeed39162fe69494cc4be),(0x8bd6139437964915c6db1f70da0b5896f55c3fee6e6f87a413b3903c80dbc44a96e0ab17f18a1ac44864ac510636a50,0x84fbf706a05c1f9e7942742030a9917de3793b61faf1ff2fe098c18ac5374954e65ec10552daddb4ba4826744a74ea0)))
def LA:K:=(((0xa32d73f00ea9fe528cb44489c10fba0252c7347e4887ec75241312d9c27ac4e36faa23982243cf61d1a054bec610ad,0xfaa89b565a7c9ceba651b774f619d3a365446a153233074a2c5f4432a29aadd73e9d18b5b9fc9d19c51bb21a6bd978a),(0x116f0cd7722d8736f5a1fbb96ec5d348bd9693cbb264992a7510f247287619094416378b8bb2fd0e2ca1e5749fb38e78,0xc27f1d82dd931d658633f50753abc843d5703f4e299629a47e91a7041dba2279e344f4578d97443db9249b342e3e17d),(0x5de36c01a48d65095a3012e931656cd46b1a6a58ff2b8c883348455c80f5003a5dd02e52d27e9c26e9c1d1cdac5e914,0xbd213e3ff77bd23e7e72ba29dbba7bb566b4bd96fba81da55fb8fb93c2b47c4f824a4e05372ed2b192ad78783858097)),((0x1708c577926626502e0e5d5cf55531f53a4d6ae3dd46030c8a603ad39c862cabc0497733b9e0c4b0ae99c56175c0f6fa,0x16bc790a3040cf1583e5864b7ffeff97ef336a2d89d78a7cd63157a7aa14124b682825195966903400b642834e4605e6),(0x8d9f7062d9432fcebe50ab8887d132c87e30d526e7d614ce172f0a9e8191e078cccd0e876aee9393f6705cc4d59abb2,0xc8bc3ffdaa8256b17bcf96bc25283c42579e1f7800fd273d4138085f9f07c542ced57f57e3ef2f0ee0bedb34a770503),(0xd4369cedb177614e388e88207920e13eeeb4393773b01c0008fe171ecee59275c615d5352f099647d183d124fc6e569,0xb684a37f80f71f5e3aa18787c66376f54229329a253acacb0cda8dc70a67dfd64fc4d706e2ca54ed6848923968f2b43)))
def BB:K:=(((0xf9a1fc1bef57daf38bba8de45ed67bc15afaaae5d3274e51841b4de24a13c8e221f40f847307b7ee9d92456111cee0b,0xd02cfd56c4c486d2aa02a25986ce4aa982143d819af937a19481f946c1e201128c5aa6f3068152c5ef95b27ea08ad82),(0x13acd54c3c60cb9d93bdfa7c94ad440b39d17498f44e37672d0d4bd205438bbb82994c3a3242f2dd5827008f79cea6e4,0xbce2c03effad10a41b4282b3b1c5c97a5d77e62929025979c1c14380a428a1159dc6ebede19fdd8c6710cdc84e0cf1),(0x1a7d7d9d6352550fa555c7257954ec0c228eca9da7da75d8996d448d55eb301f664ffb28d9e337c6828ca55437e841,0x811d7628e7eb087d666ede06f586655c50657450b650904dd7ede0302af710ce6a8fea41ba858974924ec27c11dea95)),((0x8f319bf97cf64140db145adb6b087eecaf93ac30159bb07c982f118b5f797931fcefc6477492a7f1cb85289140da5b3,0x19f77db0d99c5b711bc795a4cd0cd7a206d2acff76b010abf578bd66a3e318835fdc21057c4fbea15c4eedbe998c98f7),(0x44fcfc2d8f7e62b516c028589b7f4e43d0b2b3988cb3ce61a3cf7655a842cf295a008443330b3054ecd4af4cf5e7b2,0x9ff9f62bbb9548fbcae3b452c4be607163221473f734e209ab6f358652f4484014c7c2751deae70a8a8efcf02f67afa),(0x2c32efe8583ab2abf8564a13bd32cfdc9de1ea344433c720a6edb93a1b1c15f6aeed59822e7d9e2b95f263a235e421f,0x18a12e2d77a0519c548314abe08ca9670438d2c681bf329ec0eda81db3426dc91f92d62832fd550269641d23b7f373da)))
def LB:K:=(((0xad4bbef9b3132e31571aac400a6e30b271ff3ae6b5dad57c542a09cdc08cc7b2e1e9bd16bb39ad4b4fee9ad8cb8a6f6,0x165600d4ca026fb618ad0ed83bc90b257ab11becd1dd41e328f1701cf9371b959e4cf338e062a324b058882558901d00),(0x449a7197d783ada796f96167266653e72b3f29474cfc06bb5450b484c50f190731ec1954e22aea79cff5531c9883328,0x8b7270cc009d45673bcf919913ed02c9e126e5ba5c4551ae97fbbcd6ed0be734d2eed901ae927b4cf6db7b4a37fc63c),(0x17f85bb3ef1432948f7814797665399d5f4e46a9fbef76d7b4087770e477ed325b90fb733e940f9e73ad3ab2845ecae1,0xd00b827f93f8041208d263a7ce97e59fbd5a03f1ce145771a6aad9e1bee438079df90e68028edbf52b602820dc04fce)),((0x16e0adfa8cb737562a262c5e7a1bc6b52f8a311701802e6d8a706cb1ae6701fce8f8dd2557155e9bf9f303ccf5970e67,0xe7265413fccf1ef8d9829c34a6e96111c8accfe0df7b798d555202292d6c593ec02ce911e6eeacf291d1497ecfaecb2),(0x29b36850df2ac59d1f9cb4388dfe07d1405dfaf31179f1b8b0f6a311a8e2367c6c68e2b7b1dd3026da43e81c083852a,0xa364975e4c3157127d4c602afbada6dbc32f266267dec1ac5f2d4c64441b3860712959db0dc3f7795e8cf321d2cd480),(0xf5926cf13c6d90511058ee9fe3f15b2c16584370c0ce6c6760df82dbe46846c6bf83e95551bb50d88a63e9d7330863c,0x1544f4d86822c965ec67231079c5b584da71a575a02e922966a15fe149b7f45bf75ff516191fc317243a7b0c8b5dd812)))
def LL:K:=(((0x3d3c1a28d2979b4b9461d26f1c0683606b730998b4c59c7db28d03eb97a05a4ad513cea3b87f84921ba9ac3de58fc35,0x214f4f00eb964c8dacd2c87bfb02db1c24f7eb66b05b026cf8ee7f7431ebea63abb27f995cfe1dd2c1bc2069314e150),(0x11d4abd528721116bf2286b5f1f696a5b954b2add61497664013b1c5f058ad95d4e6e027a9f1e3b7c6c389f1acc03956,0x10bea0ddc633c59a02ec9f7b173453359c6486af00db5acc0fd70bf1e84f5716656e6bed186bfd65ab559eb31c8afa27),(0x14580456d829dfb8ca7af597aeaf509a2764245b210d5daef4433adc639836823e2d1b2ec266c83da28f5b7aa9d931a,0x14989224520f6781cf8b871edd9d76349310da1a9448e4c21e369faacef2bcef960eb1c628f4735d401f5e132a13bdac)),((0x1c8ee033ee79b1c0ee14dad8ec53c65a9a1119197a89e395f151e680c4b10c6b7853ba0830f95a105ebe2661ef6d82e,0x1345ebbc6df471b2e364d8bdba7cdb1e2e25152962c400d1ae5aa76c761c1916f679ee6af7a465971aba25c993c57ebc),(0x10dd365d9b00fde3dd04351852ceb2ec20edc861f6806d59381e2ed7b711596bd40318de9cd73b36a1d8f58d7a7e923,0x136b2b7fdd708de82f3d76fc087e4b50eea677341755e80761b1598d59573083b713707de6a34952a3a94b25a6d18038),(0x10a3c6d9c36ad706d30635a1a15ef7e602208051fc642a18899220b98093818c0ad39b0f9dc24ba0aa50c47f013c2ea7,0x9be4e5917a899f182f9cd1f57f97b5c3a5e297d13fcb6ae05edf07383fc733d369c03f339f2391d9ed91f044905387d)))
theorem s1:hR FF II=HH:=by decide +kernel
theorem s2_:kpR 127 HH x3=AA:=by decide +kernel
theorem s3:lsR AA=LA:=by decide +kernel
theorem s4:mR LA (frR AA)=BB:=by decide +kernel
theorem s5:lsR BB=LB:=by decide +kernel
theorem s6:lsR LB=LL:=by decide +kernel
theorem s7:(mR (mR (mR LL (frR (frR BB))) (Fp12.kc BB)) HH).1.1.1≠1:=by decide +kernel
theorem s8:(mR (mR (mR LL (frR (frR BB))) (Fp12.kc BB)) HH).1.1.1≠0:=by decide +kernel
theorem fin_e:finR FF II=mR (mR (mR LL (frR (frR BB))) (Fp12.kc BB)) HH:=by
 rw[finR,s1,s2_,bR,s3,s4,cR,s5,s6]
theorem ff_nz:¬Z12 FF:=fun h=>absurd h.1.1.1 (by decide +kernel)
theorem ii_ki:E12 II (Fp12.ki FF):=by
 have a1:E12 (Fp12.km (Fp12.km FF II) (Fp12.ki FF)) (Fp12.km k1 (Fp12.ki FF)):=Fp12.km_congr inv_F E12.rfl
 have a2:Fp12.km (Fp12.km FF II) (Fp12.ki FF)=Fp12.km II (Fp12.km FF (Fp12.ki FF)):=by
  rw[Fp12.km_comm (p:=FF) (q:=II),Fp12.km_assoc]
 rw[a2,Fp12.km_one'] at a1
 have a3:E12 (Fp12.km II (Fp12.km FF (Fp12.ki FF))) (Fp12.km II k1):=Fp12.km_congr E12.rfl (km_ki ff_nz)
 rw[Fp12.km_one] at a3
 exact a3.symm.trans a1
theorem fin_ne1 {f:K}(h:E12 f FF):(finK f).1.1.1%PP≠1:=fun k=>by
 have e:=(fin_c h).trans ((finR_eq ii_ki).symm)
 rw[fin_e] at e
 exact s7 ((Int.emod_emod _ _).symm.trans (e.1.1.1.symm.trans k))
theorem fin_ne0 {f:K}(h:E12 f FF):(finK f).1.1.1%PP≠0:=fun k=>by
 have e:=(fin_c h).trans ((finR_eq ii_ki).symm)
 rw[fin_e] at e
 exact s8 ((Int.emod_emod _ _).symm.trans (e.1.1.1.symm.trans k))
section
variable {X Y:Int} {l x y x' y':G} {A B:Pt G}
theorem stK_ok (h:okS l x y x' y'=true)(a:OnP FG (4,4) A)(e:OnP FG (4,4) B)(hA:EqP FG A (some (x,y)))(hB:EqP FG B (some (x',y'))):E12 (stK X Y A B) (LK l x y X Y):=by
 rcases A with _|⟨x1,y1⟩
 ·exact hA.elim
 rcases B with _|⟨x2,y2⟩
 ·exact hB.elim
 obtain⟨hs,ho⟩:=okS_ok h
 have hs1:Slope FG l x1 y1 x2 y2:=slope_eq FG (FG.refl _) (FG.symm hA.1) (FG.symm hA.2) (FG.symm hB.1) (FG.symm hB.2) hs
 have ho1:¬Opp FG x1 y1 x2 y2:=fun k=>ho ⟨(FG.Z_of (FG.sub_eq hA.1 hB.1) k.1),FG.Z_of (FG.add_eq hA.2 hB.2) k.2⟩
 have key:∀m,Slope FG m x1 y1 x2 y2->E12 (LK m x1 y1 X Y) (LK l x y X Y):=fun m hm=>lk_c (Ord2.fg_eq.1 (slope_un FG hm hs1 ho1)) (Ord2.fg_eq.1 hA.1) (Ord2.fg_eq.1 hA.2) X Y
 show E12 (if FG.Z (FG.sub x1 x2) then (if FG.Z (FG.sub y1 y2)/\¬FG.Z y1 then LK (slT FG x1 y1) x1 y1 X Y else VK x1 X) else LK (slC FG x1 y1 x2 y2) x1 y1 X Y) _
 by_cases hxx:FG.Z (FG.sub x1 x2)
 ·rw[if_pos hxx]
  by_cases hyy:FG.Z (FG.sub y1 y2)/\¬FG.Z y1
  ·rw[if_pos hyy]
   have h2:¬FG.Z (FG.mul (FG.int 2) y1):=fun k=>(FG.zd k).elim (nz_int FG (by decide +kernel)) hyy.2
   exact key _ ⟨slope_t3 FG hyy.1 hxx,ad_tc FG (FG.zi h2) hyy.1 hxx⟩
  ·refine (ho1 ⟨hxx,?_⟩).elim
   rcases FG.zd (slope_y FG a e hxx) with h|h
   ·exact ad_o FG (Decidable.byContradiction fun k=>hyy ⟨h,k⟩) h
   ·exact h
 ·rw[if_neg hxx]
  have h3:=ad_c3 (y1:=y1) (y2:=y2) FG (FG.zi (fun k=>hxx (ad_m FG k)))
  exact key _ ⟨h3,(FG.zd (chord_z FG a e h3)).resolve_right hxx⟩
end
end Pk
end Go.Proofs.YtjamcbjghffboaaGreatDoor
