/-
  Own text.
-/
import Derived.Test.YtjamcbjghffboaaGreatDoorMEi
import Derived.Test.YtjamcbjghffboaaGreatDoorEcIdYtc
import Derived.Test.YtjamcbjghffboaaGreatDoorEcIdYtt
set_option linter.unusedVariables false
set_option linter.unusedSectionVars false
namespace Go.Proofs.YtjamcbjghffboaaGreatDoor
namespace Ec
set_option maxRecDepth 100000
open Go Ring
section
variable {α:Type} (F:Fd α)
def Fd.sub (a b:α):α:=F.add a (F.mul (F.int (-1)) b)
theorem Fd.Z_of {a b:α}(h:F.eq a b)(ha:F.Z a):F.Z b:=by
 have e:b=F.add a (F.mul (F.int (-1)) (F.add a (F.mul (F.int (-1)) b))):=F.eq_of (fun i=>match i with|0=>a|_=>b) (e:=.v 1) (f:=.s (.v 0) (.s (.v 0) (.v 1))) rfl rfl (by decide)
 rw[e]
 exact F.za ha (F.zm' _ h)
theorem Fd.sub_eq {a b c d:α}(h:F.eq a b)(h':F.eq c d):F.eq (F.sub a c) (F.sub b d):=F.add_eq h (F.mul_eq (F.refl _) h')
theorem Fd.nz {a b:α}(h:¬F.Z a)(h':¬F.Z b):¬F.Z (F.mul a b):=fun h0=>(F.zd h0).elim h h'
theorem brx {N D M Q n k x4 x3 x1 x5:α}(hn:F.eq (F.mul n D) N)(hk:F.eq (F.mul k Q) M)(hD:¬F.Z D)(hQ:¬F.Z Q)
  (hW:F.Z (F.sub (F.sub (F.mul (F.mul (F.mul N N) Q) Q) (F.mul (F.mul (F.mul M M) D) D)) (F.mul (F.mul (F.mul (F.mul (F.sub (F.sub (F.add x4 x3) x1) x5) D) D) Q) Q))) :
  F.eq (F.sub (F.sub (F.mul n n) x4) x3) (F.sub (F.sub (F.mul k k) x1) x5):=by
 have hn':=F.symm hn
 have hk':=F.symm hk
 have h1:=F.Z_of (F.sub_eq (F.sub_eq (F.mul_eq (F.mul_eq (F.mul_eq hn' hn') (F.refl Q)) (F.refl Q)) (F.mul_eq (F.mul_eq (F.mul_eq hk' hk') (F.refl D)) (F.refl D))) (F.refl (F.mul (F.mul (F.mul (F.mul (F.sub (F.sub (F.add x4 x3) x1) x5) D) D) Q) Q))) hW
 have e:F.sub (F.sub (F.mul (F.mul (F.mul (F.mul n D) (F.mul n D)) Q) Q) (F.mul (F.mul (F.mul (F.mul k Q) (F.mul k Q)) D) D)) (F.mul (F.mul (F.mul (F.mul (F.sub (F.sub (F.add x4 x3) x1) x5) D) D) Q) Q)
   = F.mul (F.sub (F.sub (F.sub (F.mul n n) x4) x3) (F.sub (F.sub (F.mul k k) x1) x5)) (F.mul (F.mul D D) (F.mul Q Q)):=
  F.eq_of (fun i=>match i with|0=>n|1=>D|2=>k|3=>Q|4=>x4|5=>x3|6=>x1|_=>x5)
   (e:=.s (.s (.m (.m (.m (.m (.v 0) (.v 1)) (.m (.v 0) (.v 1))) (.v 3)) (.v 3)) (.m (.m (.m (.m (.v 2) (.v 3)) (.m (.v 2) (.v 3))) (.v 1)) (.v 1))) (.m (.m (.m (.m (.s (.s (.a (.v 4) (.v 5)) (.v 6)) (.v 7)) (.v 1)) (.v 1)) (.v 3)) (.v 3)))
   (f:=.m (.s (.s (.s (.m (.v 0) (.v 0)) (.v 4)) (.v 5)) (.s (.s (.m (.v 2) (.v 2)) (.v 6)) (.v 7))) (.m (.m (.v 1) (.v 1)) (.m (.v 3) (.v 3)))) rfl rfl (by decide +kernel)
 rw[e] at h1
 exact (F.zd h1).resolve_right (F.nz (F.nz hD hD) (F.nz hQ hQ))
theorem bry {N D M Q n k x4 x3 x1 y3 y1:α}(hn:F.eq (F.mul n D) N)(hk:F.eq (F.mul k Q) M)(hD:¬F.Z D)(hQ:¬F.Z Q)
  (hW:F.Z (F.sub (F.sub (F.mul (F.mul N (F.sub (F.mul (F.mul x3 D) D) (F.sub (F.mul N N) (F.mul (F.mul (F.add x4 x3) D) D)))) Q) (F.mul (F.mul (F.mul (F.mul y3 D) D) D) Q)) (F.sub (F.mul (F.mul M (F.sub (F.mul (F.mul x1 D) D) (F.sub (F.mul N N) (F.mul (F.mul (F.add x4 x3) D) D)))) D) (F.mul (F.mul (F.mul (F.mul y1 D) D) D) Q)))) :
  F.eq (F.sub (F.mul n (F.sub x3 (F.sub (F.sub (F.mul n n) x4) x3))) y3) (F.sub (F.mul k (F.sub x1 (F.sub (F.sub (F.mul n n) x4) x3))) y1):=by
 have hn':=F.symm hn
 have hk':=F.symm hk
 have hx:=F.sub_eq (F.mul_eq hn' hn') (F.refl (F.mul (F.mul (F.add x4 x3) D) D))
 have h1:=F.Z_of (F.sub_eq (F.sub_eq (F.mul_eq (F.mul_eq hn' (F.sub_eq (F.refl (F.mul (F.mul x3 D) D)) hx)) (F.refl Q)) (F.refl (F.mul (F.mul (F.mul (F.mul y3 D) D) D) Q))) (F.sub_eq (F.mul_eq (F.mul_eq hk' (F.sub_eq (F.refl (F.mul (F.mul x1 D) D)) hx)) (F.refl D)) (F.refl (F.mul (F.mul (F.mul (F.mul y1 D) D) D) Q)))) hW
 have e:F.sub (F.sub (F.mul (F.mul (F.mul n D) (F.sub (F.mul (F.mul x3 D) D) (F.sub (F.mul (F.mul n D) (F.mul n D)) (F.mul (F.mul (F.add x4 x3) D) D)))) Q) (F.mul (F.mul (F.mul (F.mul y3 D) D) D) Q)) (F.sub (F.mul (F.mul (F.mul k Q) (F.sub (F.mul (F.mul x1 D) D) (F.sub (F.mul (F.mul n D) (F.mul n D)) (F.mul (F.mul (F.add x4 x3) D) D)))) D) (F.mul (F.mul (F.mul (F.mul y1 D) D) D) Q))
   = F.mul (F.sub (F.sub (F.mul n (F.sub x3 (F.sub (F.sub (F.mul n n) x4) x3))) y3) (F.sub (F.mul k (F.sub x1 (F.sub (F.sub (F.mul n n) x4) x3))) y1)) (F.mul (F.mul D D) (F.mul D Q)):=
  F.eq_of (fun i=>match i with|0=>n|1=>D|2=>k|3=>Q|4=>x4|5=>x3|6=>x1|7=>y3|_=>y1)
   (e:=.s (.s (.m (.m (.m (.v 0) (.v 1)) (.s (.m (.m (.v 5) (.v 1)) (.v 1)) (.s (.m (.m (.v 0) (.v 1)) (.m (.v 0) (.v 1))) (.m (.m (.a (.v 4) (.v 5)) (.v 1)) (.v 1))))) (.v 3)) (.m (.m (.m (.m (.v 7) (.v 1)) (.v 1)) (.v 1)) (.v 3))) (.s (.m (.m (.m (.v 2) (.v 3)) (.s (.m (.m (.v 6) (.v 1)) (.v 1)) (.s (.m (.m (.v 0) (.v 1)) (.m (.v 0) (.v 1))) (.m (.m (.a (.v 4) (.v 5)) (.v 1)) (.v 1))))) (.v 1)) (.m (.m (.m (.m (.v 8) (.v 1)) (.v 1)) (.v 1)) (.v 3))))
   (f:=.m (.s (.s (.m (.v 0) (.s (.v 5) (.s (.s (.m (.v 0) (.v 0)) (.v 4)) (.v 5)))) (.v 7)) (.s (.m (.v 2) (.s (.v 6) (.s (.s (.m (.v 0) (.v 0)) (.v 4)) (.v 5)))) (.v 8))) (.m (.m (.v 1) (.v 1)) (.m (.v 1) (.v 3)))) rfl rfl (by decide +kernel)
 rw[e] at h1
 exact (F.zd h1).resolve_right (F.nz (F.nz hD hD) (F.nz hD hQ))
theorem zid {W P Q:Ex}(en:Nat->α)(h:W.norm=(Ex.a (.m P C1) (.m Q C2)).norm)(h1:F.Z (C1.val F.toRg en))(h2:F.Z (C2.val F.toRg en)):F.Z (W.val F.toRg en):=by
 rw[same F.toRg en h]
 exact F.za (F.zm' _ h1) (F.zm' _ h2)
theorem br_cc (en:Nat->α){n k:α}(h1:F.Z (C1.val F.toRg en))(h2:F.Z (C2.val F.toRg en))(hD:¬F.Z (Dc.val F.toRg en))(hQ:¬F.Z (Fc.val F.toRg en))(hn:F.eq (F.mul n (Dc.val F.toRg en)) (Nc.val F.toRg en))(hk:F.eq (F.mul k (Fc.val F.toRg en)) (Mc.val F.toRg en)) :
  F.eq (F.sub (F.sub (F.mul n n) (X4.val F.toRg en)) (en 1)) (F.sub (F.sub (F.mul k k) (en 0)) (X5.val F.toRg en)) /\
  F.eq (F.sub (F.mul n (F.sub (en 1) (F.sub (F.sub (F.mul n n) (X4.val F.toRg en)) (en 1)))) (Y3.val F.toRg en)) (F.sub (F.mul k (F.sub (en 0) (F.sub (F.sub (F.mul n n) (X4.val F.toRg en)) (en 1)))) (Y1.val F.toRg en)):=
 ⟨brx F hn hk hD hQ (zid F en id_xcc h1 h2),bry F hn hk hD hQ (zid F en id_ycc h1 h2)⟩
theorem br_ct (en:Nat->α){n k:α}(h1:F.Z (C1.val F.toRg en))(h2:F.Z (C2.val F.toRg en))(hD:¬F.Z (Dc.val F.toRg en))(hQ:¬F.Z (Ft.val F.toRg en))(hn:F.eq (F.mul n (Dc.val F.toRg en)) (Nc.val F.toRg en))(hk:F.eq (F.mul k (Ft.val F.toRg en)) (Mt.val F.toRg en)) :
  F.eq (F.sub (F.sub (F.mul n n) (X4.val F.toRg en)) (en 1)) (F.sub (F.sub (F.mul k k) (en 0)) (X5.val F.toRg en)) /\
  F.eq (F.sub (F.mul n (F.sub (en 1) (F.sub (F.sub (F.mul n n) (X4.val F.toRg en)) (en 1)))) (Y3.val F.toRg en)) (F.sub (F.mul k (F.sub (en 0) (F.sub (F.sub (F.mul n n) (X4.val F.toRg en)) (en 1)))) (Y1.val F.toRg en)):=
 ⟨brx F hn hk hD hQ (zid F en id_xct h1 h2),bry F hn hk hD hQ (zid F en id_yct h1 h2)⟩
theorem br_tc (en:Nat->α){n k:α}(h1:F.Z (C1.val F.toRg en))(h2:F.Z (C2.val F.toRg en))(hD:¬F.Z (Dt.val F.toRg en))(hQ:¬F.Z (Fc.val F.toRg en))(hn:F.eq (F.mul n (Dt.val F.toRg en)) (Nt.val F.toRg en))(hk:F.eq (F.mul k (Fc.val F.toRg en)) (Mc.val F.toRg en)) :
  F.eq (F.sub (F.sub (F.mul n n) (X4.val F.toRg en)) (en 1)) (F.sub (F.sub (F.mul k k) (en 0)) (X5.val F.toRg en)) /\
  F.eq (F.sub (F.mul n (F.sub (en 1) (F.sub (F.sub (F.mul n n) (X4.val F.toRg en)) (en 1)))) (Y3.val F.toRg en)) (F.sub (F.mul k (F.sub (en 0) (F.sub (F.sub (F.mul n n) (X4.val F.toRg en)) (en 1)))) (Y1.val F.toRg en)):=
 ⟨brx F hn hk hD hQ (zid F en id_xtc h1 h2),bry F hn hk hD hQ (zid F en id_ytc h1 h2)⟩
theorem br_tt (en:Nat->α){n k:α}(h1:F.Z (C1.val F.toRg en))(h2:F.Z (C2.val F.toRg en))(hD:¬F.Z (Dt.val F.toRg en))(hQ:¬F.Z (Ft.val F.toRg en))(hn:F.eq (F.mul n (Dt.val F.toRg en)) (Nt.val F.toRg en))(hk:F.eq (F.mul k (Ft.val F.toRg en)) (Mt.val F.toRg en)) :
  F.eq (F.sub (F.sub (F.mul n n) (X4.val F.toRg en)) (en 1)) (F.sub (F.sub (F.mul k k) (en 0)) (X5.val F.toRg en)) /\
  F.eq (F.sub (F.mul n (F.sub (en 1) (F.sub (F.sub (F.mul n n) (X4.val F.toRg en)) (en 1)))) (Y3.val F.toRg en)) (F.sub (F.mul k (F.sub (en 0) (F.sub (F.sub (F.mul n n) (X4.val F.toRg en)) (en 1)))) (Y1.val F.toRg en)):=
 ⟨brx F hn hk hD hQ (zid F en id_xtt h1 h2),bry F hn hk hD hQ (zid F en id_ytt h1 h2)⟩
end
end Ec
namespace Ec
set_option maxRecDepth 100000
open Go Ring
section
variable {α:Type} (F:Fd α)
theorem chord_z {l x1 y1 x2 y2 b:α}(h1:F.Z (F.sub (F.mul y1 y1) (F.add (F.mul (F.mul x1 x1) x1) b)))(h2:F.Z (F.sub (F.mul y2 y2) (F.add (F.mul (F.mul x2 x2) x2) b)))(h3:F.Z (F.sub (F.sub y1 y2) (F.mul l (F.sub x1 x2)))):F.Z (F.mul (F.sub (F.mul l (F.add y1 y2)) (F.add (F.add (F.mul x1 x1) (F.mul x1 x2)) (F.mul x2 x2))) (F.sub x1 x2)):=F.Z_by (fun k_=>match k_ with|0=>l|1=>x1|2=>y1|3=>x2|4=>y2|_=>b) (e:=(V0*(V2+V4)-(V1*V1+V1*V3+V3*V3))*(V1-V3)) (f:=Cn 1*Cn 1*(V2*V2-(V1*V1*V1+V5))+Cn (-1)*(V4*V4-(V3*V3*V3+V5))+Cn (-1)*(V2+V4)*(V2-V4-V0*(V1-V3))) (by decide +kernel) (F.za (F.za (F.zm' _ h1) (F.zm' _ h2)) (F.zm' _ h3))
theorem third_on {l x1 y1 x2 y2 b:α}(h1:F.Z (F.sub (F.mul y1 y1) (F.add (F.mul (F.mul x1 x1) x1) b)))(h3:F.Z (F.sub (F.sub y1 y2) (F.mul l (F.sub x1 x2))))(hc:F.Z (F.sub (F.mul l (F.add y1 y2)) (F.add (F.add (F.mul x1 x1) (F.mul x1 x2)) (F.mul x2 x2)))):F.Z (F.sub (F.mul (F.sub (F.mul l (F.sub x1 (F.sub (F.sub (F.mul l l) x1) x2))) y1) (F.sub (F.mul l (F.sub x1 (F.sub (F.sub (F.mul l l) x1) x2))) y1)) (F.add (F.mul (F.mul (F.sub (F.sub (F.mul l l) x1) x2) (F.sub (F.sub (F.mul l l) x1) x2)) (F.sub (F.sub (F.mul l l) x1) x2)) b)):=F.Z_by (fun k_=>match k_ with|0=>l|1=>x1|2=>y1|3=>x2|4=>y2|_=>b) (e:=(V0*(V1-(V0*V0-V1-V3))-V2)*(V0*(V1-(V0*V0-V1-V3))-V2)-((V0*V0-V1-V3)*(V0*V0-V1-V3)*(V0*V0-V1-V3)+V5)) (f:=Cn 1*(V2*V2-(V1*V1*V1+V5))+(V0*V0*V0+Cn (-1)*V0*V3+Cn (-2)*V0*V1)*(V2-V4-V0*(V1-V3))+(V0*V0+Cn (-1)*V3+Cn (-2)*V1)*(V0*(V2+V4)-(V1*V1+V1*V3+V3*V3))) (by decide +kernel) (F.za (F.za (F.zm' _ h1) (F.zm' _ h3)) (F.zm' _ hc))
theorem back_3 {l x1 y1 x2 y2 b:α}(h1:F.Z (F.sub (F.mul y1 y1) (F.add (F.mul (F.mul x1 x1) x1) b)))(h3:F.Z (F.sub (F.sub y1 y2) (F.mul l (F.sub x1 x2))))(hc:F.Z (F.sub (F.mul l (F.add y1 y2)) (F.add (F.add (F.mul x1 x1) (F.mul x1 x2)) (F.mul x2 x2)))):F.Z (F.sub (F.sub (F.sub (F.int 0) y2) (F.sub (F.mul l (F.sub x1 (F.sub (F.sub (F.mul l l) x1) x2))) y1)) (F.mul (F.sub (F.int 0) l) (F.sub x2 (F.sub (F.sub (F.mul l l) x1) x2)))):=F.Z_by (fun k_=>match k_ with|0=>l|1=>x1|2=>y1|3=>x2|4=>y2|_=>b) (e:=Cn 0-V4-(V0*(V1-(V0*V0-V1-V3))-V2)-(Cn 0-V0)*(V3-(V0*V0-V1-V3))) (f:=Cn 1*(V2-V4-V0*(V1-V3))) (by decide +kernel) (F.zm' _ h3)
theorem back_c {l x1 y1 x2 y2 b:α}(h1:F.Z (F.sub (F.mul y1 y1) (F.add (F.mul (F.mul x1 x1) x1) b)))(h3:F.Z (F.sub (F.sub y1 y2) (F.mul l (F.sub x1 x2))))(hc:F.Z (F.sub (F.mul l (F.add y1 y2)) (F.add (F.add (F.mul x1 x1) (F.mul x1 x2)) (F.mul x2 x2)))):F.Z (F.sub (F.mul (F.sub (F.int 0) l) (F.add (F.sub (F.int 0) y2) (F.sub (F.mul l (F.sub x1 (F.sub (F.sub (F.mul l l) x1) x2))) y1))) (F.add (F.add (F.mul x2 x2) (F.mul x2 (F.sub (F.sub (F.mul l l) x1) x2))) (F.mul (F.sub (F.sub (F.mul l l) x1) x2) (F.sub (F.sub (F.mul l l) x1) x2)))):=F.Z_by (fun k_=>match k_ with|0=>l|1=>x1|2=>y1|3=>x2|4=>y2|_=>b) (e:=(Cn 0-V0)*(Cn 0-V4+(V0*(V1-(V0*V0-V1-V3))-V2))-(V3*V3+V3*(V0*V0-V1-V3)+(V0*V0-V1-V3)*(V0*V0-V1-V3))) (f:=Cn 1*(V0*(V2+V4)-(V1*V1+V1*V3+V3*V3))) (by decide +kernel) (F.zm' _ hc)
theorem back_x {l x1 y1 x2 y2 b:α}(h1:F.Z (F.sub (F.mul y1 y1) (F.add (F.mul (F.mul x1 x1) x1) b)))(h3:F.Z (F.sub (F.sub y1 y2) (F.mul l (F.sub x1 x2))))(hc:F.Z (F.sub (F.mul l (F.add y1 y2)) (F.add (F.add (F.mul x1 x1) (F.mul x1 x2)) (F.mul x2 x2)))):F.Z (F.sub (F.sub (F.sub (F.mul (F.sub (F.int 0) l) (F.sub (F.int 0) l)) x2) (F.sub (F.sub (F.mul l l) x1) x2)) x1):=F.Z_by (fun k_=>match k_ with|0=>l|1=>x1|2=>y1|3=>x2|4=>y2|_=>b) (e:=(Cn 0-V0)*(Cn 0-V0)-V3-(V0*V0-V1-V3)-V1) (f:=Cn 0) (by decide +kernel) F.z0
theorem back_y {l x1 y1 x2 y2 b:α}(h1:F.Z (F.sub (F.mul y1 y1) (F.add (F.mul (F.mul x1 x1) x1) b)))(h3:F.Z (F.sub (F.sub y1 y2) (F.mul l (F.sub x1 x2))))(hc:F.Z (F.sub (F.mul l (F.add y1 y2)) (F.add (F.add (F.mul x1 x1) (F.mul x1 x2)) (F.mul x2 x2)))):F.Z (F.sub (F.sub (F.mul (F.sub (F.int 0) l) (F.sub x2 x1)) (F.sub (F.int 0) y2)) y1):=F.Z_by (fun k_=>match k_ with|0=>l|1=>x1|2=>y1|3=>x2|4=>y2|_=>b) (e:=(Cn 0-V0)*(V3-V1)-(Cn 0-V4)-V2) (f:=Cn (-1)*(V2-V4-V0*(V1-V3))) (by decide +kernel) (F.zm' _ h3)
end
end Ec
namespace Ec
set_option maxRecDepth 100000
open Go Ring
section
variable {α:Type} (F:Fd α)
theorem slope_ux {l m x1 y1 x2 y2:α}(h3:F.Z (F.sub (F.sub y1 y2) (F.mul l (F.sub x1 x2))))(k3:F.Z (F.sub (F.sub y1 y2) (F.mul m (F.sub x1 x2)))):F.Z (F.mul (F.sub l m) (F.sub x1 x2)):=F.Z_by (fun k_=>match k_ with|0=>l|1=>m|2=>l|3=>x1|4=>y1|5=>x2|6=>y2|_=>l) (e:=(V0-V1)*(V3-V5)) (f:=Cn (-1)*(V4-V6-V0*(V3-V5))+Cn 1*(V4-V6-V1*(V3-V5))) (by decide +kernel) (F.za (F.zm' _ h3) (F.zm' _ k3))
theorem slope_uy {l m x1 y1 x2 y2:α}(hc:F.Z (F.sub (F.mul l (F.add y1 y2)) (F.add (F.add (F.mul x1 x1) (F.mul x1 x2)) (F.mul x2 x2))))(kc:F.Z (F.sub (F.mul m (F.add y1 y2)) (F.add (F.add (F.mul x1 x1) (F.mul x1 x2)) (F.mul x2 x2)))):F.Z (F.mul (F.sub l m) (F.add y1 y2)):=F.Z_by (fun k_=>match k_ with|0=>l|1=>m|2=>l|3=>x1|4=>y1|5=>x2|6=>y2|_=>l) (e:=(V0-V1)*(V4+V6)) (f:=Cn 1*(V0*(V4+V6)-(V3*V3+V3*V5+V5*V5))+Cn (-1)*(V1*(V4+V6)-(V3*V3+V3*V5+V5*V5))) (by decide +kernel) (F.za (F.zm' _ hc) (F.zm' _ kc))
theorem slope_y {x1 y1 x2 y2 b:α}(h1:F.Z (F.sub (F.mul y1 y1) (F.add (F.mul (F.mul x1 x1) x1) b)))(h2:F.Z (F.sub (F.mul y2 y2) (F.add (F.mul (F.mul x2 x2) x2) b)))(hx:F.Z (F.sub x1 x2)):F.Z (F.mul (F.sub y1 y2) (F.add y1 y2)):=F.Z_by (fun k_=>match k_ with|0=>x1|1=>x1|2=>x1|3=>x1|4=>y1|5=>x2|6=>y2|_=>b) (e:=(V4-V6)*(V4+V6)) (f:=Cn 1*(V4*V4-(V3*V3*V3+V7))+Cn (-1)*(V6*V6-(V5*V5*V5+V7))+(V3*V3+V3*V5+V5*V5)*(V3-V5)) (by decide +kernel) (F.za (F.za (F.zm' _ h1) (F.zm' _ h2)) (F.zm' _ hx))
theorem slope_tc {i x1 y1 x2 y2:α}(hi:F.Z (F.add (F.mul (F.add y1 y2) i) (F.int (-1)))):F.Z (F.sub (F.mul (F.mul (F.add (F.add (F.mul x1 x1) (F.mul x1 x2)) (F.mul x2 x2)) i) (F.add y1 y2)) (F.add (F.add (F.mul x1 x1) (F.mul x1 x2)) (F.mul x2 x2))):=F.Z_by (fun k_=>match k_ with|0=>i|1=>i|2=>i|3=>x1|4=>y1|5=>x2|6=>y2|_=>i) (e:=(V3*V3+V3*V5+V5*V5)*V2*(V4+V6)-(V3*V3+V3*V5+V5*V5)) (f:=(V3*V3+V3*V5+V5*V5)*((V4+V6)*V2+Cn (-1))) (by decide +kernel) (F.zm' _ hi)
theorem slope_t3 {l x1 y1 x2 y2:α}(hy:F.Z (F.sub y1 y2))(hx:F.Z (F.sub x1 x2)):F.Z (F.sub (F.sub y1 y2) (F.mul l (F.sub x1 x2))):=F.Z_by (fun k_=>match k_ with|0=>l|1=>l|2=>l|3=>x1|4=>y1|5=>x2|6=>y2|_=>l) (e:=V4-V6-V0*(V3-V5)) (f:=Cn 1*(V4-V6)+Cn (-1)*V0*(V3-V5)) (by decide +kernel) (F.za (F.zm' _ hy) (F.zm' _ hx))
theorem slope_c3 {i x1 y1 x2 y2:α}(hi:F.Z (F.add (F.mul (F.sub x1 x2) i) (F.int (-1)))):F.Z (F.sub (F.sub y1 y2) (F.mul (F.mul (F.sub y1 y2) i) (F.sub x1 x2))):=F.Z_by (fun k_=>match k_ with|0=>i|1=>i|2=>i|3=>x1|4=>y1|5=>x2|6=>y2|_=>i) (e:=V4-V6-(V4-V6)*V2*(V3-V5)) (f:=Cn (-1)*(V4-V6)*((V3-V5)*V2+Cn (-1))) (by decide +kernel) (F.zm' _ hi)
structure Slope (l x1 y1 x2 y2:α):Prop where
 c3:F.Z (F.sub (F.sub y1 y2) (F.mul l (F.sub x1 x2)))
 cc:F.Z (F.sub (F.mul l (F.add y1 y2)) (F.add (F.add (F.mul x1 x1) (F.mul x1 x2)) (F.mul x2 x2)))
def On (b x y:α):Prop:=F.Z (F.sub (F.mul y y) (F.add (F.mul (F.mul x x) x) b))
def Opp (x1 y1 x2 y2:α):Prop:=F.Z (F.sub x1 x2)/\F.Z (F.add y1 y2)
theorem slope_ex {x1 y1 x2 y2 b:α}(h1:On F b x1 y1)(h2:On F b x2 y2)(ho:¬Opp F x1 y1 x2 y2):∃l,Slope F l x1 y1 x2 y2:=by
 by_cases hx:F.Z (F.sub x1 x2)
 ·have hy:¬F.Z (F.add y1 y2):=fun h=>ho ⟨hx,h⟩
  have hd:=(F.zd (slope_y F h1 h2 hx)).resolve_right hy
  exact⟨_,slope_t3 F hd hx,slope_tc F (F.zi hy)⟩
 ·have h3:=slope_c3 (y1:=y1) (y2:=y2) F (F.zi hx)
  exact⟨_,h3,(F.zd (chord_z F h1 h2 h3)).resolve_right hx⟩
theorem slope_un {l m x1 y1 x2 y2:α}(h:Slope F l x1 y1 x2 y2)(k:Slope F m x1 y1 x2 y2)(ho:¬Opp F x1 y1 x2 y2):F.eq l m:=by
 rcases F.zd (slope_ux F h.c3 k.c3) with hz|hx
 ·exact hz
 rcases F.zd (slope_uy F h.cc k.cc) with hz|hy
 ·exact hz
 exact absurd ⟨hx,hy⟩ ho
end
end Ec
namespace Ec
set_option maxRecDepth 100000
open Go Ring
section
variable {α:Type} (F:Fd α)
abbrev Pt (α:Type):=Option (α×α)
def OnP (b:α):Pt α->Prop
 |none=>True
 |some (x,y)=>On F b x y
def EqP:Pt α->Pt α->Prop
 |none,none=>True
 |some (x,y),some (x',y')=>F.eq x x'/\F.eq y y'
 |_,_=>False
def negP:Pt α->Pt α
 |none=>none
 |some (x,y)=>some (x,F.sub (F.int 0) y)
def Xs (l x1 x2:α):α:=F.sub (F.sub (F.mul l l) x1) x2
def Ys (l x1 y1 x3:α):α:=F.sub (F.mul l (F.sub x1 x3)) y1
inductive Sum:Pt α->Pt α->Pt α->Prop
 |zl {B C}:EqP F B C->Sum none B C
 |zr {A C}:EqP F A C->Sum A none C
 |op {x1 y1 x2 y2}:Opp F x1 y1 x2 y2->Sum (some (x1,y1)) (some (x2,y2)) none
 |sl {x1 y1 x2 y2 l x3 y3}:¬Opp F x1 y1 x2 y2->Slope F l x1 y1 x2 y2->F.eq x3 (Xs F l x1 x2)->F.eq y3 (Ys F l x1 y1 x3)->Sum (some (x1,y1)) (some (x2,y2)) (some (x3,y3))
theorem eqP_refl (A:Pt α):EqP F A A:=by
 rcases A with _|⟨x,y⟩
 ·trivial
 ·exact⟨F.refl _,F.refl _⟩
theorem eqP_symm {A B:Pt α}(h:EqP F A B):EqP F B A:=by
 rcases A with _|⟨x,y⟩<;>rcases B with _|⟨x',y'⟩
 ·trivial
 ·exact h.elim
 ·exact h.elim
 ·exact⟨F.symm h.1,F.symm h.2⟩
theorem eqP_trans {A B C:Pt α}(h:EqP F A B)(k:EqP F B C):EqP F A C:=by
 rcases A with _|⟨x,y⟩<;>rcases B with _|⟨x',y'⟩<;>rcases C with _|⟨x'',y''⟩
 all_goals first|trivial|exact h.elim|exact k.elim|exact⟨F.trans h.1 k.1,F.trans h.2 k.2⟩
theorem Xs_eq {l l' x1 x1' x2 x2':α}(hl:F.eq l l')(h1:F.eq x1 x1')(h2:F.eq x2 x2'):F.eq (Xs F l x1 x2) (Xs F l' x1' x2'):=
 F.sub_eq (F.sub_eq (F.mul_eq hl hl) h1) h2
theorem Ys_eq {l l' x1 x1' y1 y1' x3 x3':α}(hl:F.eq l l')(h1:F.eq x1 x1')(k1:F.eq y1 y1')(h3:F.eq x3 x3'):F.eq (Ys F l x1 y1 x3) (Ys F l' x1' y1' x3'):=
 F.sub_eq (F.mul_eq hl (F.sub_eq h1 h3)) k1
theorem on_eq {b x y x' y':α}(hx:F.eq x x')(hy:F.eq y y')(h:On F b x y):On F b x' y':=
 F.Z_of (F.sub_eq (F.mul_eq hy hy) (F.add_eq (F.mul_eq (F.mul_eq hx hx) hx) (F.refl b))) h
theorem onP_eq {b:α}{A B:Pt α}(e:EqP F A B)(h:OnP F b A):OnP F b B:=by
 rcases A with _|⟨x,y⟩<;>rcases B with _|⟨x',y'⟩
 all_goals first|trivial|exact e.elim|exact on_eq F e.1 e.2 h
theorem opp_eq {x1 y1 x2 y2 x1' y1' x2' y2':α}(h1:F.eq x1 x1')(k1:F.eq y1 y1')(h2:F.eq x2 x2')(k2:F.eq y2 y2')(h:Opp F x1 y1 x2 y2):Opp F x1' y1' x2' y2':=
 ⟨F.Z_of (F.sub_eq h1 h2) h.1,F.Z_of (F.add_eq k1 k2) h.2⟩
theorem slope_eq {l x1 y1 x2 y2 l' x1' y1' x2' y2':α}(hl:F.eq l l')(h1:F.eq x1 x1')(k1:F.eq y1 y1')(h2:F.eq x2 x2')(k2:F.eq y2 y2')(h:Slope F l x1 y1 x2 y2):Slope F l' x1' y1' x2' y2':=
  ⟨F.Z_of (F.sub_eq (F.sub_eq k1 k2) (F.mul_eq hl (F.sub_eq h1 h2))) h.c3,
   F.Z_of (F.sub_eq (F.mul_eq hl (F.add_eq k1 k2)) (F.add_eq (F.add_eq (F.mul_eq h1 h1) (F.mul_eq h1 h2)) (F.mul_eq h2 h2))) h.cc⟩
theorem sum_eq {A B C A' B' C':Pt α}(a:EqP F A A')(e:EqP F B B')(c:EqP F C C')(h:Sum F A B C):Sum F A' B' C':=by
 cases h with
 |zl h=>
  rcases A' with _|⟨x',y'⟩
  ·exact .zl (eqP_trans F (eqP_trans F (eqP_symm F e) h) c)
  ·exact a.elim
 |zr h=>
  rcases B' with _|⟨x',y'⟩
  ·exact .zr (eqP_trans F (eqP_trans F (eqP_symm F a) h) c)
  ·exact e.elim
 |op h=>
  rcases A' with _|⟨u1,v1⟩
  ·exact a.elim
  rcases B' with _|⟨u2,v2⟩
  ·exact e.elim
  rcases C' with _|⟨u3,v3⟩
  ·exact .op (opp_eq F a.1 a.2 e.1 e.2 h)
  ·exact c.elim
 |sl ho hs h3 k3=>
  rcases A' with _|⟨u1,v1⟩
  ·exact a.elim
  rcases B' with _|⟨u2,v2⟩
  ·exact e.elim
  rcases C' with _|⟨u3,v3⟩
  ·exact c.elim
  refine .sl (fun h=>ho (opp_eq F (F.symm a.1) (F.symm a.2) (F.symm e.1) (F.symm e.2) h)) (slope_eq F (F.refl _) a.1 a.2 e.1 e.2 hs) ?_ ?_
  ·exact F.trans (F.symm c.1) (F.trans h3 (Xs_eq F (F.refl _) a.1 e.1))
  ·exact F.trans (F.symm c.2) (F.trans k3 (Ys_eq F (F.refl _) a.1 a.2 c.1))
theorem sum_un {A B C D:Pt α}(h:Sum F A B C)(k:Sum F A B D):EqP F C D:=by
 cases h with
 |zl h=>
  cases k with
  |zl k=>exact eqP_trans F (eqP_symm F h) k
  |zr k=>exact eqP_trans F (eqP_symm F h) k
 |zr h=>
  cases k with
  |zl k=>exact eqP_trans F (eqP_symm F h) k
  |zr k=>exact eqP_trans F (eqP_symm F h) k
 |op h=>
  cases k with
  |op k=>trivial
  |sl ko ks k3 l3=>exact absurd h ko
 |sl ho hs h3 m3=>
  cases k with
  |op k=>exact absurd k ho
  |sl ko ks k3 l3=>
   have hl:=slope_un F hs ks ho
   have hx:=F.trans h3 (F.trans (Xs_eq F hl (F.refl _) (F.refl _)) (F.symm k3))
   exact⟨hx,F.trans m3 (F.trans (Ys_eq F hl (F.refl _) (F.refl _) hx) (F.symm l3))⟩
theorem sum_ex {b:α}{A B:Pt α}(h:OnP F b A)(k:OnP F b B):∃C,Sum F A B C/\OnP F b C:=by
 rcases A with _|⟨x1,y1⟩
 ·exact⟨B,.zl (eqP_refl F B),k⟩
 rcases B with _|⟨x2,y2⟩
 ·exact⟨_,.zr (eqP_refl F _),h⟩
 by_cases ho:Opp F x1 y1 x2 y2
 ·exact⟨none,.op ho,trivial⟩
 obtain⟨l,hs⟩:=slope_ex F h k ho
 exact⟨some (Xs F l x1 x2,Ys F l x1 y1 (Xs F l x1 x2)),.sl ho hs (F.refl _) (F.refl _),third_on F h hs.c3 hs.cc⟩
theorem sum_on {b:α}{A B C:Pt α}(h:OnP F b A)(k:OnP F b B)(s:Sum F A B C):OnP F b C:=by
 obtain⟨D,hD,hd⟩:=sum_ex F h k
 exact onP_eq F (sum_un F hD s) hd
end
end Ec
namespace Ec
set_option maxRecDepth 100000
open Go Ring
section
variable {α:Type} (F:Fd α)
theorem cm_3 {l x1 y1 x2 y2:α}(h3:F.Z (F.sub (F.sub y1 y2) (F.mul l (F.sub x1 x2)))):F.Z (F.sub (F.sub y2 y1) (F.mul l (F.sub x2 x1))):=F.Z_by (fun k_=>match k_ with|0=>l|1=>x1|2=>y1|3=>x2|4=>y2|5=>l|6=>l|_=>l) (e:=V4-V2-V0*(V3-V1)) (f:=Cn (-1)*(V2-V4-V0*(V1-V3))) (by decide +kernel) (F.zm' _ h3)
theorem cm_c {l x1 y1 x2 y2:α}(hc:F.Z (F.sub (F.mul l (F.add y1 y2)) (F.add (F.add (F.mul x1 x1) (F.mul x1 x2)) (F.mul x2 x2)))):F.Z (F.sub (F.mul l (F.add y2 y1)) (F.add (F.add (F.mul x2 x2) (F.mul x2 x1)) (F.mul x1 x1))):=F.Z_by (fun k_=>match k_ with|0=>l|1=>x1|2=>y1|3=>x2|4=>y2|5=>l|6=>l|_=>l) (e:=V0*(V4+V2)-(V3*V3+V3*V1+V1*V1)) (f:=Cn 1*(V0*(V2+V4)-(V1*V1+V1*V3+V3*V3))) (by decide +kernel) (F.zm' _ hc)
theorem cm_x {l x1 x2 x3:α}(k:F.Z (F.sub x3 (F.sub (F.sub (F.mul l l) x1) x2))):F.Z (F.sub x3 (F.sub (F.sub (F.mul l l) x2) x1)):=F.Z_by (fun k_=>match k_ with|0=>l|1=>x1|2=>l|3=>x2|4=>l|5=>x3|6=>l|_=>l) (e:=V5-(V0*V0-V3-V1)) (f:=Cn 1*(V5-(V0*V0-V1-V3))) (by decide +kernel) (F.zm' _ k)
theorem cm_y {l x1 y1 x2 y2 x3 y3:α}(k:F.Z (F.sub y3 (F.sub (F.mul l (F.sub x1 x3)) y1)))(h3:F.Z (F.sub (F.sub y1 y2) (F.mul l (F.sub x1 x2)))):F.Z (F.sub y3 (F.sub (F.mul l (F.sub x2 x3)) y2)):=F.Z_by (fun k_=>match k_ with|0=>l|1=>x1|2=>y1|3=>x2|4=>y2|5=>x3|6=>y3|_=>l) (e:=V6-(V0*(V3-V5)-V4)) (f:=Cn 1*(V6-(V0*(V1-V5)-V2))+Cn (-1)*(V2-V4-V0*(V1-V3))) (by decide +kernel) (F.za (F.zm' _ k) (F.zm' _ h3))
theorem ng_3 {l x1 y1 x2 y2:α}(h3:F.Z (F.sub (F.sub y1 y2) (F.mul l (F.sub x1 x2)))):F.Z (F.sub (F.sub (F.sub (F.int 0) y1) (F.sub (F.int 0) y2)) (F.mul (F.sub (F.int 0) l) (F.sub x1 x2))):=F.Z_by (fun k_=>match k_ with|0=>l|1=>x1|2=>y1|3=>x2|4=>y2|5=>l|6=>l|_=>l) (e:=Cn 0-V2-(Cn 0-V4)-(Cn 0-V0)*(V1-V3)) (f:=Cn (-1)*(V2-V4-V0*(V1-V3))) (by decide +kernel) (F.zm' _ h3)
theorem ng_c {l x1 y1 x2 y2:α}(hc:F.Z (F.sub (F.mul l (F.add y1 y2)) (F.add (F.add (F.mul x1 x1) (F.mul x1 x2)) (F.mul x2 x2)))):F.Z (F.sub (F.mul (F.sub (F.int 0) l) (F.add (F.sub (F.int 0) y1) (F.sub (F.int 0) y2))) (F.add (F.add (F.mul x1 x1) (F.mul x1 x2)) (F.mul x2 x2))):=F.Z_by (fun k_=>match k_ with|0=>l|1=>x1|2=>y1|3=>x2|4=>y2|5=>l|6=>l|_=>l) (e:=(Cn 0-V0)*(Cn 0-V2+(Cn 0-V4))-(V1*V1+V1*V3+V3*V3)) (f:=Cn 1*(V0*(V2+V4)-(V1*V1+V1*V3+V3*V3))) (by decide +kernel) (F.zm' _ hc)
theorem ng_x {l x1 x2 x3:α}(k:F.Z (F.sub x3 (F.sub (F.sub (F.mul l l) x1) x2))):F.Z (F.sub x3 (F.sub (F.sub (F.mul (F.sub (F.int 0) l) (F.sub (F.int 0) l)) x1) x2)):=F.Z_by (fun k_=>match k_ with|0=>l|1=>x1|2=>l|3=>x2|4=>l|5=>x3|6=>l|_=>l) (e:=V5-((Cn 0-V0)*(Cn 0-V0)-V1-V3)) (f:=Cn 1*(V5-(V0*V0-V1-V3))) (by decide +kernel) (F.zm' _ k)
theorem ng_y {l x1 y1 x3 y3:α}(k:F.Z (F.sub y3 (F.sub (F.mul l (F.sub x1 x3)) y1))):F.Z (F.sub (F.sub (F.int 0) y3) (F.sub (F.mul (F.sub (F.int 0) l) (F.sub x1 x3)) (F.sub (F.int 0) y1))):=F.Z_by (fun k_=>match k_ with|0=>l|1=>x1|2=>y1|3=>l|4=>l|5=>x3|6=>y3|_=>l) (e:=Cn 0-V6-((Cn 0-V0)*(V1-V5)-(Cn 0-V2))) (f:=Cn (-1)*(V6-(V0*(V1-V5)-V2))) (by decide +kernel) (F.zm' _ k)
theorem ng_o {y1 y2:α}(k:F.Z (F.add y1 y2)):F.Z (F.add (F.sub (F.int 0) y1) (F.sub (F.int 0) y2)):=F.Z_by (fun k_=>match k_ with|0=>y1|1=>y1|2=>y1|3=>y1|4=>y2|5=>y1|6=>y1|_=>y1) (e:=Cn 0-V2+(Cn 0-V4)) (f:=Cn (-1)*(V2+V4)) (by decide +kernel) (F.zm' _ k)
theorem ng_i {y1 y2:α}(k:F.Z (F.add (F.sub (F.int 0) y1) (F.sub (F.int 0) y2))):F.Z (F.add y1 y2):=F.Z_by (fun k_=>match k_ with|0=>y1|1=>y1|2=>y1|3=>y1|4=>y2|5=>y1|6=>y1|_=>y1) (e:=V2+V4) (f:=Cn (-1)*(Cn 0-V2+(Cn 0-V4))) (by decide +kernel) (F.zm' _ k)
theorem op_c {y1 y2:α}(k:F.Z (F.add y1 y2)):F.Z (F.add y2 y1):=F.Z_by (fun k_=>match k_ with|0=>y1|1=>y1|2=>y1|3=>y1|4=>y2|5=>y1|6=>y1|_=>y1) (e:=V4+V2) (f:=Cn 1*(V2+V4)) (by decide +kernel) (F.zm' _ k)
theorem op_x {x1 x2:α}(k:F.Z (F.sub x1 x2)):F.Z (F.sub x2 x1):=F.Z_by (fun k_=>match k_ with|0=>x1|1=>x1|2=>x1|3=>x2|4=>x1|5=>x1|6=>x1|_=>x1) (e:=V3-V1) (f:=Cn (-1)*(V1-V3)) (by decide +kernel) (F.zm' _ k)
theorem bk_o {y1 y2:α}(k:F.Z (F.sub y1 y2)):F.Z (F.add (F.sub (F.int 0) y1) y2):=F.Z_by (fun k_=>match k_ with|0=>y1|1=>y1|2=>y1|3=>y1|4=>y2|5=>y1|6=>y1|_=>y1) (e:=Cn 0-V2+V4) (f:=Cn (-1)*(V2-V4)) (by decide +kernel) (F.zm' _ k)
theorem bk_r {y1 y2:α}(k:F.Z (F.add y1 y2)):F.Z (F.sub (F.sub (F.int 0) y2) y1):=F.Z_by (fun k_=>match k_ with|0=>y1|1=>y1|2=>y1|3=>y1|4=>y2|5=>y1|6=>y1|_=>y1) (e:=Cn 0-V4-V2) (f:=Cn (-1)*(V2+V4)) (by decide +kernel) (F.zm' _ k)
theorem bk_2 {l x1 y1 x2 y2 x3 y3:α}(h3:F.Z (F.sub (F.sub y1 y2) (F.mul l (F.sub x1 x2))))(ky:F.Z (F.sub y3 (F.sub (F.mul l (F.sub x1 x3)) y1)))(hx:F.Z (F.sub x2 x3))(ho:F.Z (F.add (F.sub (F.int 0) y2) y3)):F.Z (F.mul (F.int 2) y2):=F.Z_by (fun k_=>match k_ with|0=>l|1=>x1|2=>y1|3=>x2|4=>y2|5=>x3|6=>y3|_=>l) (e:=Cn 2*V4) (f:=Cn (-1)*(V2-V4-V0*(V1-V3))+Cn 1*(V6-(V0*(V1-V5)-V2))+V0*(V3-V5)+Cn (-1)*(Cn 0-V4+V6)) (by decide +kernel) (F.za (F.za (F.za (F.zm' _ h3) (F.zm' _ ky)) (F.zm' _ hx)) (F.zm' _ ho))
theorem bk_3 {l x1 y1 x2 y2 x3:α}(h3:F.Z (F.sub (F.sub y1 y2) (F.mul l (F.sub x1 x2))))(hc:F.Z (F.sub (F.mul l (F.add y1 y2)) (F.add (F.add (F.mul x1 x1) (F.mul x1 x2)) (F.mul x2 x2))))(kx:F.Z (F.sub x3 (F.sub (F.sub (F.mul l l) x1) x2)))(hx:F.Z (F.sub x2 x3))(hy:F.Z y2):F.Z (F.mul (F.int 3) (F.mul x2 x2)):=F.Z_by (fun k_=>match k_ with|0=>l|1=>x1|2=>y1|3=>x2|4=>y2|5=>x3|6=>l|_=>l) (e:=Cn 3*(V3*V3)) (f:=V0*(V2-V4-V0*(V1-V3))+Cn (-1)*(V0*(V2+V4)-(V1*V1+V1*V3+V3*V3))+Cn (-1)*(V1-V3)*(V5-(V0*V0-V1-V3))+Cn (-1)*(V1-V3)*(V3-V5)+Cn 2*V0*V4) (by decide +kernel) (F.za (F.za (F.za (F.za (F.zm' _ h3) (F.zm' _ hc)) (F.zm' _ kx)) (F.zm' _ hx)) (F.zm' _ hy))
theorem bk_b {x2 y2 b:α}(h2:F.Z (F.sub (F.mul y2 y2) (F.add (F.mul (F.mul x2 x2) x2) b)))(hy:F.Z y2)(hz:F.Z x2):F.Z b:=F.Z_by (fun k_=>match k_ with|0=>x2|1=>x2|2=>x2|3=>x2|4=>y2|5=>x2|6=>x2|_=>b) (e:=V7) (f:=Cn (-1)*(V4*V4-(V3*V3*V3+V7))+V4*V4+Cn (-1)*(V3*V3)*V3) (by decide +kernel) (F.za (F.za (F.zm' _ h2) (F.zm' _ hy)) (F.zm' _ hz))
theorem sum_comm {A B C:Pt α}(h:Sum F A B C):Sum F B A C:=by
 cases h with
 |zl h=>exact .zr h
 |zr h=>exact .zl h
 |op h=>exact .op ⟨op_x F h.1,op_c F h.2⟩
 |sl ho hs h3 k3=>exact .sl (fun h=>ho ⟨op_x F h.1,op_c F h.2⟩) ⟨cm_3 F hs.c3,cm_c F hs.cc⟩ (cm_x F h3) (cm_y F k3 hs.c3)
theorem neg_eq {A B:Pt α}(h:EqP F A B):EqP F (negP F A) (negP F B):=by
 rcases A with _|⟨x,y⟩<;>rcases B with _|⟨x',y'⟩
 all_goals first|trivial|exact h.elim|exact⟨h.1,F.sub_eq (F.refl _) h.2⟩
theorem sum_neg {A B C:Pt α}(h:Sum F A B C):Sum F (negP F A) (negP F B) (negP F C):=by
 cases h with
 |zl h=>exact .zl (neg_eq F h)
 |zr h=>exact .zr (neg_eq F h)
 |op h=>exact .op ⟨h.1,ng_o F h.2⟩
 |sl ho hs h3 k3=>exact .sl (fun h=>ho ⟨h.1,ng_i F h.2⟩) ⟨ng_3 F hs.c3,ng_c F hs.cc⟩ (ng_x F h3) (ng_y F k3)
theorem nz_int {n:Int}(h:¬n%Go.Proofs.YtjamcbjghffboaaGreatDoor.Fp.PP=0):¬F.Z (F.int n):=fun k=>h (F.ze.mp k)
theorem sum_back {b:α}(hb:¬F.Z b){A B C:Pt α}(a:OnP F b A)(e:OnP F b B)(h:Sum F A B C):Sum F (negP F B) C A:=by
 cases h with
 |zl h=>
  rcases B with _|⟨x2,y2⟩<;>rcases C with _|⟨x3,y3⟩
  ·exact .zl trivial
  ·exact h.elim
  ·exact h.elim
  ·exact .op ⟨h.1,bk_o F h.2⟩
 |zr h=>exact .zl (eqP_symm F h)
 |op h=>exact .zr ⟨op_x F h.1,bk_r F h.2⟩
 |@sl x1 y1 x2 y2 l x3 y3 ho hs h3 k3=>
  by_cases hp:Opp F x2 (F.sub (F.int 0) y2) x3 y3
  ·exfalso
   have hy:=(F.zd (bk_2 F hs.c3 k3 hp.1 hp.2)).resolve_left (nz_int F (by decide +kernel))
   have hz:=(F.zd (bk_3 F hs.c3 hs.cc h3 hp.1 hy)).resolve_left (nz_int F (by decide +kernel))
   exact hb (bk_b F e hy ((F.zd hz).elim id id))
  ·have e3:F.eq (Xs F l x1 x2) x3:=F.symm h3
   have f3:F.eq (Ys F l x1 y1 (Xs F l x1 x2)) y3:=F.trans (Ys_eq F (F.refl _) (F.refl _) (F.refl _) e3) (F.symm k3)
   refine .sl hp (slope_eq F (F.refl _) (F.refl _) (F.refl _) e3 f3 ⟨back_3 F a hs.c3 hs.cc,back_c F a hs.c3 hs.cc⟩) ?_ ?_
   ·exact F.trans (F.symm (back_x F a hs.c3 hs.cc)) (Xs_eq F (F.refl _) (F.refl _) e3)
   ·exact F.symm (back_y F a hs.c3 hs.cc)
end
end Ec
namespace Ec
set_option maxRecDepth 100000
open Go Ring
section
variable {α:Type} (F:Fd α)
theorem as_1 {l x1 y1 x2 y2:α}(c3:F.Z (F.sub (F.sub y1 y2) (F.mul l (F.sub x1 x2)))):F.Z (F.sub y1 (F.add y2 (F.mul l (F.sub x1 x2)))):=F.Z_by (fun k_=>match k_ with|0=>l|1=>l|2=>x1|3=>y1|4=>x2|5=>y2|6=>l|7=>l|8=>l|9=>l|10=>l|_=>l) (e:=V3-(V5+V0*(V2-V4))) (f:=Cn 1*(V3-V5-V0*(V2-V4))) (by decide +kernel) (F.zm' _ c3)
theorem as_3 {m x2 y2 x3 y3:α}(k3:F.Z (F.sub (F.sub y2 y3) (F.mul m (F.sub x2 x3)))):F.Z (F.sub y3 (F.add y2 (F.mul m (F.sub x3 x2)))):=F.Z_by (fun k_=>match k_ with|0=>m|1=>m|2=>m|3=>m|4=>x2|5=>y2|6=>x3|7=>y3|8=>m|9=>m|10=>m|_=>m) (e:=V7-(V5+V1*(V6-V4))) (f:=Cn (-1)*(V5-V7-V1*(V4-V6))) (by decide +kernel) (F.zm' _ k3)
theorem as_4 {l x1 y1 x2 y2 x4 y4:α}(c3:F.Z (F.sub (F.sub y1 y2) (F.mul l (F.sub x1 x2))))(hx:F.Z (F.sub x4 (F.sub (F.sub (F.mul l l) x1) x2)))(hy:F.Z (F.sub y4 (F.sub (F.mul l (F.sub x1 x4)) y1))):F.Z (F.sub y4 (F.mul (F.int (-1)) (F.add y2 (F.mul l (F.sub (F.sub (F.sub (F.mul l l) x1) x2) x2))))):=F.Z_by (fun k_=>match k_ with|0=>l|1=>l|2=>x1|3=>y1|4=>x2|5=>y2|6=>l|7=>l|8=>x4|9=>y4|10=>l|_=>l) (e:=V9-Cn (-1)*(V5+V0*(V0*V0-V2-V4-V4))) (f:=Cn (-1)*(V3-V5-V0*(V2-V4))+Cn (-1)*V0*(V8-(V0*V0-V2-V4))+Cn 1*(V9-(V0*(V2-V8)-V3))) (by decide +kernel) (F.za (F.za (F.zm' _ c3) (F.zm' _ hx)) (F.zm' _ hy))
theorem as_5 {m x2 y2 x3 x5 y5:α}(hx:F.Z (F.sub x5 (F.sub (F.sub (F.mul m m) x2) x3)))(hy:F.Z (F.sub y5 (F.sub (F.mul m (F.sub x2 x5)) y2))):F.Z (F.sub y5 (F.mul (F.int (-1)) (F.add y2 (F.mul m (F.sub (F.sub (F.sub (F.mul m m) x2) x3) x2))))):=F.Z_by (fun k_=>match k_ with|0=>m|1=>m|2=>m|3=>m|4=>x2|5=>y2|6=>x3|7=>m|8=>m|9=>m|10=>x5|_=>y5) (e:=V11-Cn (-1)*(V5+V1*(V1*V1-V4-V6-V4))) (f:=Cn (-1)*V1*(V10-(V1*V1-V4-V6))+Cn 1*(V11-(V1*(V4-V10)-V5))) (by decide +kernel) (F.za (F.zm' _ hx) (F.zm' _ hy))
theorem as_c1 {l x1 y1 x2 y2:α}(c3:F.Z (F.sub (F.sub y1 y2) (F.mul l (F.sub x1 x2))))(cc:F.Z (F.sub (F.mul l (F.add y1 y2)) (F.add (F.add (F.mul x1 x1) (F.mul x1 x2)) (F.mul x2 x2)))):F.Z (F.sub (F.add (F.mul (F.mul (F.int 2) l) y2) (F.mul (F.mul l l) (F.sub x1 x2))) (F.add (F.add (F.mul x1 x1) (F.mul x1 x2)) (F.mul x2 x2))):=F.Z_by (fun k_=>match k_ with|0=>l|1=>l|2=>x1|3=>y1|4=>x2|5=>y2|6=>l|7=>l|8=>l|9=>l|10=>l|_=>l) (e:=Cn 2*V0*V5+V0*V0*(V2-V4)-(V2*V2+V2*V4+V4*V4)) (f:=Cn (-1)*V0*(V3-V5-V0*(V2-V4))+Cn 1*(V0*(V3+V5)-(V2*V2+V2*V4+V4*V4))) (by decide +kernel) (F.za (F.zm' _ c3) (F.zm' _ cc))
theorem as_c2 {m x2 y2 x3 y3:α}(k3:F.Z (F.sub (F.sub y2 y3) (F.mul m (F.sub x2 x3))))(kc:F.Z (F.sub (F.mul m (F.add y2 y3)) (F.add (F.add (F.mul x2 x2) (F.mul x2 x3)) (F.mul x3 x3)))):F.Z (F.sub (F.add (F.mul (F.mul (F.int 2) m) y2) (F.mul (F.mul m m) (F.sub x3 x2))) (F.add (F.add (F.mul x3 x3) (F.mul x3 x2)) (F.mul x2 x2))):=F.Z_by (fun k_=>match k_ with|0=>m|1=>m|2=>m|3=>m|4=>x2|5=>y2|6=>x3|7=>y3|8=>m|9=>m|10=>m|_=>m) (e:=Cn 2*V1*V5+V1*V1*(V6-V4)-(V6*V6+V6*V4+V4*V4)) (f:=V1*(V5-V7-V1*(V4-V6))+Cn 1*(V1*(V5+V7)-(V4*V4+V4*V6+V6*V6))) (by decide +kernel) (F.za (F.zm' _ k3) (F.zm' _ kc))
theorem as_n {l x1 y1 x2 y2:α}(c3:F.Z (F.sub (F.sub y1 y2) (F.mul l (F.sub x1 x2)))):F.Z (F.sub (F.mul l (F.sub x2 x1)) (F.sub y2 y1)):=F.Z_by (fun k_=>match k_ with|0=>l|1=>l|2=>x1|3=>y1|4=>x2|5=>y2|6=>l|7=>l|8=>l|9=>l|10=>l|_=>l) (e:=V0*(V4-V2)-(V5-V3)) (f:=Cn 1*(V3-V5-V0*(V2-V4))) (by decide +kernel) (F.zm' _ c3)
theorem as_t {l x1 y1 x2 y2:α}(cc:F.Z (F.sub (F.mul l (F.add y1 y2)) (F.add (F.add (F.mul x1 x1) (F.mul x1 x2)) (F.mul x2 x2)))):F.Z (F.sub (F.mul l (F.add y2 y1)) (F.add (F.add (F.mul x2 x2) (F.mul x2 x1)) (F.mul x1 x1))):=F.Z_by (fun k_=>match k_ with|0=>l|1=>l|2=>x1|3=>y1|4=>x2|5=>y2|6=>l|7=>l|8=>l|9=>l|10=>l|_=>l) (e:=V0*(V5+V3)-(V4*V4+V4*V2+V2*V2)) (f:=Cn 1*(V0*(V3+V5)-(V2*V2+V2*V4+V4*V4))) (by decide +kernel) (F.zm' _ cc)
theorem nn {y1:α}  : F.Z (F.sub (F.sub (F.int 0) (F.sub (F.int 0) y1)) y1):=F.Z_by (fun k_=>match k_ with|0=>y1|1=>y1|2=>y1|3=>y1|4=>y1|5=>y1|6=>y1|7=>y1|8=>y1|9=>y1|10=>y1|_=>y1) (e:=Cn 0-(Cn 0-V3)-V3) (f:=Cn 0) (by decide +kernel) F.z0
theorem no_opp {x1 y1 x2 y2:α}(ho:¬Opp F x1 y1 x2 y2)(h:F.Z (F.sub x2 x1)):¬F.Z (F.add y2 y1):=fun k=>ho ⟨op_x F h,op_c F k⟩
theorem br_all {x1 y1 x2 y2 x3 y3 l m x4 y4 x5 y5 n k u v u' v':α}(hl:Slope F l x1 y1 x2 y2)(hm:Slope F m x2 y2 x3 y3)
  (hx4:F.eq x4 (Xs F l x1 x2)) (hy4:F.eq y4 (Ys F l x1 y1 x4)) (hx5:F.eq x5 (Xs F m x2 x3)) (hy5:F.eq y5 (Ys F m x2 y2 x5))
  (on:¬Opp F x4 y4 x3 y3) (hn:Slope F n x4 y4 x3 y3) (ok:¬Opp F x1 y1 x5 y5) (hk:Slope F k x1 y1 x5 y5)
  (hu:F.eq u (Xs F n x4 x3)) (hv:F.eq v (Ys F n x4 y4 u)) (hu':F.eq u' (Xs F k x1 x5)) (hv':F.eq v' (Ys F k x1 y1 u')):F.eq u u'/\F.eq v v':=by
 let en:Nat->α:=fun i=>match i with|0=>x1|1=>x3|2=>x2|3=>y2|4=>l|_=>m
 have q1:F.eq y1 (Y1.val F.toRg en):=as_1 F hl.c3
 have q3:F.eq y3 (Y3.val F.toRg en):=as_3 F hm.c3
 have qx4:F.eq x4 (X4.val F.toRg en):=hx4
 have qy4:F.eq y4 (Y4.val F.toRg en):=as_4 F hl.c3 hx4 hy4
 have qx5:F.eq x5 (X5.val F.toRg en):=hx5
 have qy5:F.eq y5 (Y5.val F.toRg en):=as_5 F hx5 hy5
 have e1:F.Z (C1.val F.toRg en):=as_c1 F hl.c3 hl.cc
 have e2:F.Z (C2.val F.toRg en):=as_c2 F hm.c3 hm.cc
 have on':¬Opp F (X4.val F.toRg en) (Y4.val F.toRg en) x3 (Y3.val F.toRg en):=fun h=>on (opp_eq F (F.symm qx4) (F.symm qy4) (F.refl _) (F.symm q3) h)
 have ok':¬Opp F x1 (Y1.val F.toRg en) (X5.val F.toRg en) (Y5.val F.toRg en):=fun h=>ok (opp_eq F (F.refl _) (F.symm q1) (F.symm qx5) (F.symm qy5) h)
 have sn:=slope_eq F (F.refl _) qx4 qy4 (F.refl _) q3 hn
 have sk:=slope_eq F (F.refl _) (F.refl _) q1 qx5 qy5 hk
 have main:F.eq (F.sub (F.sub (F.mul n n) (X4.val F.toRg en)) (en 1)) (F.sub (F.sub (F.mul k k) (en 0)) (X5.val F.toRg en)) /\
   F.eq (F.sub (F.mul n (F.sub (en 1) (F.sub (F.sub (F.mul n n) (X4.val F.toRg en)) (en 1)))) (Y3.val F.toRg en)) (F.sub (F.mul k (F.sub (en 0) (F.sub (F.sub (F.mul n n) (X4.val F.toRg en)) (en 1)))) (Y1.val F.toRg en)):=by
  by_cases hD:F.Z (Dc.val F.toRg en)<;>by_cases hQ:F.Z (Fc.val F.toRg en)
  ·exact br_tt F en e1 e2 (no_opp F on' hD) (no_opp F ok' hQ) (as_t F sn.cc) (as_t F sk.cc)
  ·exact br_tc F en e1 e2 (no_opp F on' hD) hQ (as_t F sn.cc) (as_n F sk.c3)
  ·exact br_ct F en e1 e2 hD (no_opp F ok' hQ) (as_n F sn.c3) (as_t F sk.cc)
  ·exact br_cc F en e1 e2 hD hQ (as_n F sn.c3) (as_n F sk.c3)
 have hM:F.eq u (F.sub (F.sub (F.mul n n) (X4.val F.toRg en)) (en 1)):=F.trans hu (Xs_eq F (F.refl _) qx4 (F.refl _))
 have hx:F.eq u u':=F.trans hM (F.trans main.1 (F.symm (F.trans hu' (Xs_eq F (F.refl _) (F.refl _) qx5))))
 refine⟨hx,?_⟩
 have a1:F.eq v (Ys F n x3 y3 u):=cm_y F hv hn.c3
 have a2:=F.trans a1 (Ys_eq F (F.refl n) (F.refl x3) q3 hM)
 have a3:F.eq v (Ys F k x1 (Y1.val F.toRg en) (F.sub (F.sub (F.mul n n) (X4.val F.toRg en)) (en 1))):=F.trans a2 main.2
 exact F.trans a3 (F.trans (Ys_eq F (F.refl k) (F.refl x1) (F.symm q1) (F.trans (F.symm hM) hx)) (F.symm hv'))
theorem neg_neg (A:Pt α):EqP F (negP F (negP F A)) A:=by
 rcases A with _|⟨x,y⟩
 ·trivial
 ·exact⟨F.refl _,nn F⟩
theorem sum_nl {B D:Pt α}(h:Sum F none B D):EqP F B D:=by
 cases h with
 |zl h=>exact h
 |zr h=>exact h
theorem sum_nr {B D:Pt α}(h:Sum F B none D):EqP F B D:=by
 cases h with
 |zl h=>exact h
 |zr h=>exact h
theorem sum_op {A B:Pt α}(h:Sum F A B none):EqP F (negP F A) B:=by
 cases h with
 |zl h=>
  rcases B with _|⟨x,y⟩
  ·trivial
  ·exact h.elim
 |zr h=>
  rcases A with _|⟨x,y⟩
  ·trivial
  ·exact h.elim
 |op h=>exact⟨h.1,bk_r F (op_c F h.2)⟩
theorem sum_self (A:Pt α):Sum F A (negP F A) none:=by
 rcases A with _|⟨x,y⟩
 ·exact .zl trivial
 ·exact .op ⟨F.refl _,by have h:=bk_o F (F.refl y);exact op_c F h⟩
theorem on_neg {x y b:α}(h:F.Z (F.sub (F.mul y y) (F.add (F.mul (F.mul x x) x) b))):F.Z (F.sub (F.mul (F.sub (F.int 0) y) (F.sub (F.int 0) y)) (F.add (F.mul (F.mul x x) x) b)):=F.Z_by (fun k_=>match k_ with|0=>x|1=>y|_=>b) (e:=(Cn 0-V1)*(Cn 0-V1)-(V0*V0*V0+V2)) (f:=Cn 1*(V1*V1-(V0*V0*V0+V2))) (by decide +kernel) (F.zm' _ h)
theorem onP_neg {b:α}{A:Pt α}(h:OnP F b A):OnP F b (negP F A):=by
 rcases A with _|⟨x,y⟩
 ·trivial
 ·exact on_neg F h
theorem sum_assoc {b:α}(hb:¬F.Z b){A B C D E L R:Pt α}(a:OnP F b A)(e:OnP F b B)(c:OnP F b C)
  (hD:Sum F A B D) (hE:Sum F B C E) (hL:Sum F D C L) (hR:Sum F A E R):EqP F L R:=by
 have r:=fun X:Pt α=>eqP_refl F X
 rcases A with _|⟨x1,y1⟩
 ·exact eqP_trans F (sum_un F (sum_eq F (eqP_symm F (sum_nl F hD)) (r C) (r L) hL) hE) (sum_nl F hR)
 rcases B with _|⟨x2,y2⟩
 ·exact sum_un F (sum_eq F (eqP_symm F (sum_nr F hD)) (sum_nl F hE) (r L) hL) hR
 rcases C with _|⟨x3,y3⟩
 ·exact eqP_trans F (eqP_symm F (sum_nr F hL)) (sum_un F hD (sum_eq F (r _) (eqP_symm F (sum_nr F hE)) (r R) hR))
 rcases D with _|⟨x4,y4⟩
 ·have h1:=sum_eq F (eqP_symm F (sum_op F hD)) (r _) (r _) hE
  have h2:=sum_back F hb c (onP_neg F a) (sum_comm F h1)
  exact eqP_trans F (eqP_symm F (sum_nl F hL)) (sum_un F (sum_eq F (neg_neg F _) (r _) (r _) h2) hR)
 rcases E with _|⟨x5,y5⟩
 ·have h1:=sum_eq F (r _) (eqP_symm F (sum_op F hE)) (r L) hL
  exact eqP_trans F (sum_un F h1 (sum_comm F (sum_back F hb a e hD))) (sum_nr F hR)
 rcases L with _|⟨u,v⟩
 ·have h1:=sum_eq F (neg_neg F _) (r _) (r _) (sum_neg F (sum_back F hb a e hD))
  have h2:=sum_un F (sum_eq F (r _) (sum_op F hL) (r _) h1) hE
  exact sum_un F (sum_self F _) (sum_eq F (r _) (eqP_symm F h2) (r R) hR)
 rcases R with _|⟨u',v'⟩
 ·have h0:=sum_neg F (sum_back F hb c e (sum_comm F hE))
  have h1:=sum_comm F (sum_eq F (neg_neg F _) (r _) (r _) h0)
  have h2:=eqP_trans F (neg_eq F (eqP_symm F (sum_op F hR))) (neg_neg F _)
  have h3:=sum_un F hD (sum_eq F h2 (r _) (r _) h1)
  exact sum_un F hL (sum_eq F (eqP_symm F h3) (r _) (r _) (sum_comm F (sum_self F _)))
 cases hD with
 |sl oD sD xD yD=>
 cases hE with
 |sl oE sE xE yE=>
 cases hL with
 |sl oL sL xL yL=>
 cases hR with
 |sl oR sR xR yR=>
 exact br_all F sD sE xD yD xE yE oL sL oR sR xL yL xR yR
end
end Ec
namespace Ec
open Go Ring
section
variable {α:Type} (F:Fd α)
def Mult:Nat->Pt α->Pt α->Prop
 |0,_,C=>EqP F none C
 |n+1,A,C=>∃D,Mult n A D/\Sum F D A C
theorem mult_eq {n:Nat}{A A' C C':Pt α}(a:EqP F A A')(c:EqP F C C')(h:Mult F n A C):Mult F n A' C':=by
 induction n generalizing C C' with
 |zero=>exact eqP_trans F h c
 |succ n ih=>
  obtain⟨D,h1,h2⟩:=h
  exact⟨D,ih (eqP_refl F D) h1,sum_eq F (eqP_refl F D) a c h2⟩
theorem mult_un {n:Nat}{A C C':Pt α}(h:Mult F n A C)(k:Mult F n A C'):EqP F C C':=by
 induction n generalizing C C' with
 |zero=>exact eqP_trans F (eqP_symm F h) k
 |succ n ih=>
  obtain⟨D,h1,h2⟩:=h
  obtain⟨E,k1,k2⟩:=k
  exact sum_un F (sum_eq F (ih h1 k1) (eqP_refl F A) (eqP_refl F C) h2) k2
theorem mult_on {b:α}{n:Nat}{A C:Pt α}(a:OnP F b A)(h:Mult F n A C):OnP F b C:=by
 induction n generalizing C with
 |zero=>exact onP_eq F h trivial
 |succ n ih=>
  obtain⟨D,h1,h2⟩:=h
  exact sum_on F (ih h1) a h2
theorem mult_ex {b:α}(n:Nat){A:Pt α}(a:OnP F b A):∃C,Mult F n A C/\OnP F b C:=by
 induction n with
 |zero=>exact⟨none,trivial,trivial⟩
 |succ n ih=>
  obtain⟨D,h1,h2⟩:=ih
  obtain⟨C,h3,h4⟩:=sum_ex F h2 a
  exact⟨C,⟨D,h1,h3⟩,h4⟩
theorem mult_one {A:Pt α}:Mult F 1 A A:=⟨none,trivial,.zl (eqP_refl F A)⟩
theorem assoc_l {b:α}(hb:¬F.Z b){A B C D E R:Pt α}(a:OnP F b A)(e:OnP F b B)(c:OnP F b C)
  (hD:Sum F A B D) (hE:Sum F B C E) (hR:Sum F A E R):Sum F D C R:=by
 obtain⟨L,hL,_⟩:=sum_ex F (sum_on F a e hD) c
 exact sum_eq F (eqP_refl F _) (eqP_refl F _) (sum_assoc F hb a e c hD hE hL hR) hL
theorem mult_add {b:α}(hb:¬F.Z b){n m:Nat}{A D E C:Pt α}(a:OnP F b A)(hD:Mult F n A D)(hE:Mult F m A E)(h:Sum F D E C):Mult F (n+m) A C:=by
 induction m generalizing E C with
 |zero=>exact mult_eq F (eqP_refl F A) (sum_nr F (sum_eq F (eqP_refl F D) (eqP_symm F hE) (eqP_refl F C) h)) hD
 |succ m ih=>
  obtain⟨E',h1,h2⟩:=hE
  have d:=mult_on F a hD
  have e:=mult_on F a h1
  obtain⟨G,h3,_⟩:=sum_ex F d e
  exact⟨G,ih h1 h3,assoc_l F hb d e a h3 h2 h⟩
theorem mult_neg {n:Nat}{A C:Pt α}(h:Mult F n A C):Mult F n (negP F A) (negP F C):=by
 induction n generalizing C with
 |zero=>exact neg_eq F h
 |succ n ih=>
  obtain⟨D,h1,h2⟩:=h
  exact⟨_,ih h1,sum_neg F h2⟩
theorem mult_none (n:Nat):Mult F n none none:=by
 induction n with
 |zero=>trivial
 |succ n ih=>exact⟨none,ih,.zl trivial⟩
end
end Ec
namespace Ec
set_option maxRecDepth 100000
open Go Ring
section
variable {α:Type} (F:Fd α)
theorem ad_tc {i x1 y1 x2 y2:α}(hi:F.Z (F.add (F.mul (F.mul (F.int 2) y1) i) (F.int (-1))))(hy:F.Z (F.sub y1 y2))(hx:F.Z (F.sub x1 x2)):F.Z (F.sub (F.mul (F.mul (F.mul (F.int 3) (F.mul x1 x1)) i) (F.add y1 y2)) (F.add (F.add (F.mul x1 x1) (F.mul x1 x2)) (F.mul x2 x2))):=F.Z_by (fun k_=>match k_ with|0=>i|1=>x1|2=>y1|3=>x2|4=>y2|_=>i) (e:=Cn 3*(V1*V1)*V0*(V2+V4)-(V1*V1+V1*V3+V3*V3)) (f:=Cn 3*(V1*V1)*(Cn 2*V2*V0+Cn (-1))+Cn (-1)*(Cn 3*(V1*V1)*V0)*(V2-V4)+(Cn 2*V1+V3)*(V1-V3)) (by decide +kernel) (F.za (F.za (F.zm' _ hi) (F.zm' _ hy)) (F.zm' _ hx))
theorem ad_c3 {i x1 y1 x2 y2:α}(hi:F.Z (F.add (F.mul (F.sub x2 x1) i) (F.int (-1)))):F.Z (F.sub (F.sub y1 y2) (F.mul (F.mul (F.sub y2 y1) i) (F.sub x1 x2))):=F.Z_by (fun k_=>match k_ with|0=>i|1=>x1|2=>y1|3=>x2|4=>y2|_=>i) (e:=V2-V4-(V4-V2)*V0*(V1-V3)) (f:=Cn (-1)*(V2-V4)*((V3-V1)*V0+Cn (-1))) (by decide +kernel) (F.zm' _ hi)
theorem ad_2 {y1 y2:α}(ho:F.Z (F.add y1 y2))(hy:F.Z (F.sub y1 y2)):F.Z (F.mul (F.int 2) y1):=F.Z_by (fun k_=>match k_ with|0=>y1|1=>y1|2=>y1|3=>y1|4=>y2|_=>y1) (e:=Cn 2*V2) (f:=Cn 1*(V2+V4)+Cn 1*(V2-V4)) (by decide +kernel) (F.za (F.zm' _ ho) (F.zm' _ hy))
theorem ad_o {y1 y2:α}(k:F.Z y1)(hy:F.Z (F.sub y1 y2)):F.Z (F.add y1 y2):=F.Z_by (fun k_=>match k_ with|0=>y1|1=>y1|2=>y1|3=>y1|4=>y2|_=>y1) (e:=V2+V4) (f:=Cn 2*V2+Cn (-1)*(V2-V4)) (by decide +kernel) (F.za (F.zm' _ k) (F.zm' _ hy))
theorem ad_m {x1 x2:α}(k:F.Z (F.sub x1 x2)):F.Z (F.sub x2 x1):=F.Z_by (fun k_=>match k_ with|0=>x1|1=>x1|2=>x1|3=>x2|4=>x1|_=>x1) (e:=V3-V1) (f:=Cn (-1)*(V1-V3)) (by decide +kernel) (F.zm' _ k)
theorem inv_eq {a b:α}(h:F.eq a b)(ha:¬F.Z a):F.eq (F.inv a) (F.inv b):=by
 have hb:¬F.Z b:=fun k=>ha (F.Z_of (F.symm h) k)
 have h1:F.eq (F.mul a (F.inv a)) (F.int 1):=by
  have e:F.add (F.mul a (F.inv a)) (F.mul (F.int (-1)) (F.int 1))=F.add (F.mul a (F.inv a)) (F.int (-1)):=F.eq_of (fun k_=>match k_ with|0=>a|_=>F.inv a) (e:=.s (.m (.v 0) (.v 1)) (.n 1)) (f:=.a (.m (.v 0) (.v 1)) (.n (-1))) rfl rfl (by decide)
  rw[Fd.eq,e]
  exact F.zi ha
 have h2:F.eq (F.mul b (F.inv b)) (F.int 1):=by
  have e:F.add (F.mul b (F.inv b)) (F.mul (F.int (-1)) (F.int 1))=F.add (F.mul b (F.inv b)) (F.int (-1)):=F.eq_of (fun k_=>match k_ with|0=>b|_=>F.inv b) (e:=.s (.m (.v 0) (.v 1)) (.n 1)) (f:=.a (.m (.v 0) (.v 1)) (.n (-1))) rfl rfl (by decide)
  rw[Fd.eq,e]
  exact F.zi hb
 refine F.cancel ha ?_
 rw[F.mul_comm (F.inv a),F.mul_comm (F.inv b)]
 exact F.trans h1 (F.trans (F.symm h2) (F.mul_eq (F.symm h) (F.refl _)))
def slT (x y:α):α:=F.mul (F.mul (F.int 3) (F.mul x x)) (F.inv (F.mul (F.int 2) y))
def slC (x1 y1 x2 y2:α):α:=F.mul (F.sub y2 y1) (F.inv (F.sub x2 x1))
def trd (l x1 y1 x2:α):Pt α:=some (Xs F l x1 x2,Ys F l x1 y1 (Xs F l x1 x2))
section
variable [DecidablePred F.Z]
def addP:Pt α->Pt α->Pt α
 |none,B=>B
 |some a,none=>some a
 |some (x1,y1),some (x2,y2)=>if F.Z (F.sub x1 x2) then (if F.Z (F.sub y1 y2)/\¬F.Z y1 then trd F (slT F x1 y1) x1 y1 x2 else none) else trd F (slC F x1 y1 x2 y2) x1 y1 x2
def mulP:Nat->Pt α->Pt α
 |0,_=>none
 |n+1,A=>addP F (mulP n A) A
theorem add_sum {b:α}{A B:Pt α}(a:OnP F b A)(e:OnP F b B):Sum F A B (addP F A B):=by
 rcases A with _|⟨x1,y1⟩
 ·exact .zl (eqP_refl F B)
 rcases B with _|⟨x2,y2⟩
 ·exact .zr (eqP_refl F _)
 show Sum F _ _ (if F.Z (F.sub x1 x2) then (if F.Z (F.sub y1 y2)/\¬F.Z y1 then trd F (slT F x1 y1) x1 y1 x2 else none) else trd F (slC F x1 y1 x2 y2) x1 y1 x2)
 by_cases hx:F.Z (F.sub x1 x2)
 ·rw[if_pos hx]
  by_cases hy:F.Z (F.sub y1 y2)/\¬F.Z y1
  ·rw[if_pos hy]
   have h2:¬F.Z (F.mul (F.int 2) y1):=fun k=>(F.zd k).elim (nz_int F (by decide +kernel)) hy.2
   exact .sl (fun ho=>h2 (ad_2 F ho.2 hy.1)) ⟨slope_t3 F hy.1 hx,ad_tc F (F.zi h2) hy.1 hx⟩ (F.refl _) (F.refl _)
  ·rw[if_neg hy]
   refine .op ⟨hx,?_⟩
   rcases F.zd (slope_y F a e hx) with h|h
   ·exact ad_o F (Decidable.byContradiction fun k=>hy ⟨h,k⟩) h
   ·exact h
 ·rw[if_neg hx]
  have h3:=ad_c3 (y1:=y1) (y2:=y2) F (F.zi (fun k=>hx (ad_m F k)))
  exact .sl (fun ho=>hx ho.1) ⟨h3,(F.zd (chord_z F a e h3)).resolve_right hx⟩ (F.refl _) (F.refl _)
theorem add_on {b:α}{A B:Pt α}(a:OnP F b A)(e:OnP F b B):OnP F b (addP F A B):=sum_on F a e (add_sum F a e)
theorem trd_eq {l x1 y1 x2 l' x1' y1' x2':α}(hl:F.eq l l')(h1:F.eq x1 x1')(k1:F.eq y1 y1')(h2:F.eq x2 x2'):EqP F (trd F l x1 y1 x2) (trd F l' x1' y1' x2'):=
 ⟨Xs_eq F hl h1 h2,Ys_eq F hl h1 k1 (Xs_eq F hl h1 h2)⟩
theorem add_eq' {A B A' B':Pt α}(a:EqP F A A')(e:EqP F B B'):EqP F (addP F A B) (addP F A' B'):=by
 rcases A with _|⟨x1,y1⟩<;>rcases A' with _|⟨u1,v1⟩
 ·exact e
 ·exact a.elim
 ·exact a.elim
 rcases B with _|⟨x2,y2⟩<;>rcases B' with _|⟨u2,v2⟩
 ·exact a
 ·exact e.elim
 ·exact e.elim
 have dx:=F.sub_eq a.1 e.1
 have dy:=F.sub_eq a.2 e.2
 show EqP F (if F.Z (F.sub x1 x2) then (if F.Z (F.sub y1 y2)/\¬F.Z y1 then trd F (slT F x1 y1) x1 y1 x2 else none) else trd F (slC F x1 y1 x2 y2) x1 y1 x2) (if F.Z (F.sub u1 u2) then (if F.Z (F.sub v1 v2)/\¬F.Z v1 then trd F (slT F u1 v1) u1 v1 u2 else none) else trd F (slC F u1 v1 u2 v2) u1 v1 u2)
 by_cases hx:F.Z (F.sub x1 x2)
 ·rw[if_pos hx,if_pos (F.Z_of dx hx)]
  by_cases hy:F.Z (F.sub y1 y2)/\¬F.Z y1
  ·rw[if_pos hy,if_pos ⟨F.Z_of dy hy.1,fun k=>hy.2 (F.Z_of (F.symm a.2) k)⟩]
   have h2:¬F.Z (F.mul (F.int 2) y1):=fun k=>(F.zd k).elim (nz_int F (by decide +kernel)) hy.2
   exact trd_eq F (F.mul_eq (F.mul_eq (F.refl _) (F.mul_eq a.1 a.1)) (inv_eq F (F.mul_eq (F.refl _) a.2) h2)) a.1 a.2 e.1
  ·rw[if_neg hy,if_neg (fun k=>hy ⟨F.Z_of (F.symm dy) k.1,fun h=>k.2 (F.Z_of a.2 h)⟩)]
   trivial
 ·rw[if_neg hx,if_neg (fun k=>hx (F.Z_of (F.symm dx) k))]
  exact trd_eq F (F.mul_eq (F.sub_eq e.2 a.2) (inv_eq F (F.sub_eq e.1 a.1) (fun k=>hx (ad_m F k)))) a.1 a.2 e.1
theorem mulP_mult {b:α}{A:Pt α}(a:OnP F b A):∀n,Mult F n A (mulP F n A)/\OnP F b (mulP F n A)
 |0=>⟨trivial,trivial⟩
 |n+1=>by
  obtain⟨h,k⟩:=mulP_mult a n
  exact⟨⟨_,h,add_sum F k a⟩,add_on F k a⟩
theorem mulP_of {b:α}{A C:Pt α}(a:OnP F b A){n:Nat}(h:Mult F n A C):EqP F C (mulP F n A):=mult_un F h (mulP_mult F a n).1
end
end
end Ec
namespace Ec
set_option maxRecDepth 100000
open Go Ring
section
variable {α:Type} (F:Fd α)
def twX (X Y:α):α:=(F.sub (F.mul (F.mul (F.int 3) (F.mul X X)) (F.mul (F.int 3) (F.mul X X))) (F.add (F.mul (F.int 4) (F.mul X (F.mul Y Y))) (F.mul (F.int 4) (F.mul X (F.mul Y Y)))))
def twY (X Y:α):α:=(F.sub (F.mul (F.mul (F.int 3) (F.mul X X)) (F.sub (F.mul (F.int 4) (F.mul X (F.mul Y Y))) (F.sub (F.mul (F.mul (F.int 3) (F.mul X X)) (F.mul (F.int 3) (F.mul X X))) (F.add (F.mul (F.int 4) (F.mul X (F.mul Y Y))) (F.mul (F.int 4) (F.mul X (F.mul Y Y))))))) (F.mul (F.int 8) (F.mul (F.mul Y Y) (F.mul Y Y))))
def twZ (Y Z:α):α:=(F.mul (F.int 2) (F.mul Y Z))
def plH (X Z x2:α):α:=(F.sub (F.mul x2 (F.mul Z Z)) X)
def plR (Y Z y2:α):α:=(F.sub (F.mul y2 (F.mul (F.mul Z Z) Z)) Y)
def plX (X Y Z x2 y2:α):α:=(F.sub (F.sub (F.mul (F.sub (F.mul y2 (F.mul (F.mul Z Z) Z)) Y) (F.sub (F.mul y2 (F.mul (F.mul Z Z) Z)) Y)) (F.mul (F.mul (F.sub (F.mul x2 (F.mul Z Z)) X) (F.sub (F.mul x2 (F.mul Z Z)) X)) (F.sub (F.mul x2 (F.mul Z Z)) X))) (F.add (F.mul X (F.mul (F.sub (F.mul x2 (F.mul Z Z)) X) (F.sub (F.mul x2 (F.mul Z Z)) X))) (F.mul X (F.mul (F.sub (F.mul x2 (F.mul Z Z)) X) (F.sub (F.mul x2 (F.mul Z Z)) X)))))
def plY (X Y Z x2 y2:α):α:=(F.sub (F.mul (F.sub (F.mul y2 (F.mul (F.mul Z Z) Z)) Y) (F.sub (F.mul X (F.mul (F.sub (F.mul x2 (F.mul Z Z)) X) (F.sub (F.mul x2 (F.mul Z Z)) X))) (F.sub (F.sub (F.mul (F.sub (F.mul y2 (F.mul (F.mul Z Z) Z)) Y) (F.sub (F.mul y2 (F.mul (F.mul Z Z) Z)) Y)) (F.mul (F.mul (F.sub (F.mul x2 (F.mul Z Z)) X) (F.sub (F.mul x2 (F.mul Z Z)) X)) (F.sub (F.mul x2 (F.mul Z Z)) X))) (F.add (F.mul X (F.mul (F.sub (F.mul x2 (F.mul Z Z)) X) (F.sub (F.mul x2 (F.mul Z Z)) X))) (F.mul X (F.mul (F.sub (F.mul x2 (F.mul Z Z)) X) (F.sub (F.mul x2 (F.mul Z Z)) X))))))) (F.mul Y (F.mul (F.mul (F.sub (F.mul x2 (F.mul Z Z)) X) (F.sub (F.mul x2 (F.mul Z Z)) X)) (F.sub (F.mul x2 (F.mul Z Z)) X))))
def plZ (X Z x2:α):α:=(F.mul Z (F.sub (F.mul x2 (F.mul Z Z)) X))
theorem tw_x {X Y Z l x y:α}(kx:F.Z (F.sub X (F.mul x (F.mul Z Z))))(ky:F.Z (F.sub Y (F.mul y (F.mul (F.mul Z Z) Z))))(cc:F.Z (F.sub (F.mul l (F.add y y)) (F.add (F.add (F.mul x x) (F.mul x x)) (F.mul x x)))):F.Z (F.sub (F.sub (F.mul (F.mul (F.int 3) (F.mul X X)) (F.mul (F.int 3) (F.mul X X))) (F.add (F.mul (F.int 4) (F.mul X (F.mul Y Y))) (F.mul (F.int 4) (F.mul X (F.mul Y Y))))) (F.mul (F.sub (F.sub (F.mul l l) x) x) (F.mul (F.mul (F.int 2) (F.mul Y Z)) (F.mul (F.int 2) (F.mul Y Z))))):=F.Z_by (fun k_=>match k_ with|0=>X|1=>Y|2=>Z|3=>l|4=>x|5=>y|6=>X|7=>X|_=>X) (e:=Cn 3*(V0*V0)*(Cn 3*(V0*V0))-(Cn 4*(V0*(V1*V1))+Cn 4*(V0*(V1*V1)))-(V3*V3-V4-V4)*(Cn 2*(V1*V2)*(Cn 2*(V1*V2)))) (f:=(Cn (-8)*(V1*V1)+Cn 9*(V0*V0*V0)+Cn 9*(V2*V2*V2*V2*V2*V2)*(V4*V4*V4)+Cn 9*V0*(V2*V2*V2*V2)*(V4*V4)+Cn 9*V4*(V0*V0)*(V2*V2))*(V0-V4*(V2*V2))+(Cn (-4)*V1*(V2*V2)*(V3*V3)+Cn (-4)*V5*(V2*V2*V2*V2*V2)*(V3*V3))*(V1-V5*(V2*V2*V2))+(Cn (-3)*(V2*V2*V2*V2*V2*V2*V2*V2)*(V4*V4)+Cn (-2)*V3*V5*(V2*V2*V2*V2*V2*V2*V2*V2))*(V3*(V5+V5)-(V4*V4+V4*V4+V4*V4))) (by decide +kernel) (F.za (F.za (F.zm' _ kx) (F.zm' _ ky)) (F.zm' _ cc))
theorem tw_y {X Y Z l x y:α}(kx:F.Z (F.sub X (F.mul x (F.mul Z Z))))(ky:F.Z (F.sub Y (F.mul y (F.mul (F.mul Z Z) Z))))(cc:F.Z (F.sub (F.mul l (F.add y y)) (F.add (F.add (F.mul x x) (F.mul x x)) (F.mul x x)))):F.Z (F.sub (F.sub (F.mul (F.mul (F.int 3) (F.mul X X)) (F.sub (F.mul (F.int 4) (F.mul X (F.mul Y Y))) (F.sub (F.mul (F.mul (F.int 3) (F.mul X X)) (F.mul (F.int 3) (F.mul X X))) (F.add (F.mul (F.int 4) (F.mul X (F.mul Y Y))) (F.mul (F.int 4) (F.mul X (F.mul Y Y))))))) (F.mul (F.int 8) (F.mul (F.mul Y Y) (F.mul Y Y)))) (F.mul (F.sub (F.mul l (F.sub x (F.sub (F.sub (F.mul l l) x) x))) y) (F.mul (F.mul (F.mul (F.int 2) (F.mul Y Z)) (F.mul (F.int 2) (F.mul Y Z))) (F.mul (F.int 2) (F.mul Y Z))))):=F.Z_by (fun k_=>match k_ with|0=>X|1=>Y|2=>Z|3=>l|4=>x|5=>y|6=>X|7=>X|_=>X) (e:=Cn 3*(V0*V0)*(Cn 4*(V0*(V1*V1))-(Cn 3*(V0*V0)*(Cn 3*(V0*V0))-(Cn 4*(V0*(V1*V1))+Cn 4*(V0*(V1*V1)))))-Cn 8*(V1*V1*(V1*V1))-(V3*(V4-(V3*V3-V4-V4))-V5)*(Cn 2*(V1*V2)*(Cn 2*(V1*V2))*(Cn 2*(V1*V2)))) (f:=(Cn (-27)*(V0*V0*V0*V0*V0)+Cn (-27)*(V2*V2*V2*V2*V2*V2*V2*V2*V2*V2)*(V4*V4*V4*V4*V4)+Cn 36*(V0*V0)*(V1*V1)+Cn (-27)*V0*(V2*V2*V2*V2*V2*V2*V2*V2)*(V4*V4*V4*V4)+Cn (-27)*V4*(V0*V0*V0*V0)*(V2*V2)+Cn (-27)*(V0*V0)*(V2*V2*V2*V2*V2*V2)*(V4*V4*V4)+Cn (-27)*(V0*V0*V0)*(V2*V2*V2*V2)*(V4*V4)+Cn 36*(V1*V1)*(V2*V2*V2*V2)*(V4*V4)+Cn 36*V0*V4*(V1*V1)*(V2*V2))*(V0-V4*(V2*V2))+(Cn (-8)*(V1*V1*V1)+Cn 8*(V1*V1)*(V2*V2*V2)*(V3*V3*V3)+Cn 8*(V2*V2*V2*V2*V2*V2*V2*V2*V2)*(V3*V3*V3)*(V5*V5)+Cn 36*V1*(V2*V2*V2*V2*V2*V2)*(V4*V4*V4)+Cn 36*V5*(V2*V2*V2*V2*V2*V2*V2*V2*V2)*(V4*V4*V4)+Cn (-24)*V3*V4*(V1*V1)*(V2*V2*V2)+Cn (-24)*V3*V4*(V2*V2*V2*V2*V2*V2*V2*V2*V2)*(V5*V5)+Cn 8*V1*V5*(V2*V2*V2*V2*V2*V2)*(V3*V3*V3)+Cn (-24)*V1*V3*V4*V5*(V2*V2*V2*V2*V2*V2))*(V1-V5*(V2*V2*V2))+(Cn 9*(V2*V2*V2*V2*V2*V2*V2*V2*V2*V2*V2*V2)*(V4*V4*V4*V4)+Cn (-12)*V4*(V2*V2*V2*V2*V2*V2*V2*V2*V2*V2*V2*V2)*(V5*V5)+Cn 4*(V2*V2*V2*V2*V2*V2*V2*V2*V2*V2*V2*V2)*(V3*V3)*(V5*V5)+Cn 6*V3*V5*(V2*V2*V2*V2*V2*V2*V2*V2*V2*V2*V2*V2)*(V4*V4))*(V3*(V5+V5)-(V4*V4+V4*V4+V4*V4))) (by decide +kernel) (F.za (F.za (F.zm' _ kx) (F.zm' _ ky)) (F.zm' _ cc))
theorem tw_o {Y Z y:α}(ky:F.Z (F.sub Y (F.mul y (F.mul (F.mul Z Z) Z))))(ho:F.Z (F.add y y)):F.Z (F.mul (F.int 2) (F.mul Y Z)):=F.Z_by (fun k_=>match k_ with|0=>Y|1=>Y|2=>Z|3=>Y|4=>Y|5=>y|6=>Y|7=>Y|_=>Y) (e:=Cn 2*(V1*V2)) (f:=Cn 2*V2*(V1-V5*(V2*V2*V2))+V2*V2*V2*V2*(V5+V5)) (by decide +kernel) (F.za (F.zm' _ ky) (F.zm' _ ho))
theorem tw_n {Y Z y:α}(ky:F.Z (F.sub Y (F.mul y (F.mul (F.mul Z Z) Z))))(hY:F.Z Y):F.Z (F.mul y (F.mul (F.mul Z Z) Z)):=F.Z_by (fun k_=>match k_ with|0=>Y|1=>Y|2=>Z|3=>Y|4=>Y|5=>y|6=>Y|7=>Y|_=>Y) (e:=V5*(V2*V2*V2)) (f:=Cn (-1)*(V1-V5*(V2*V2*V2))+Cn 1*V1) (by decide +kernel) (F.za (F.zm' _ ky) (F.zm' _ hY))
theorem pl_x {X Y Z l x y x2 y2:α}(kx:F.Z (F.sub X (F.mul x (F.mul Z Z))))(ky:F.Z (F.sub Y (F.mul y (F.mul (F.mul Z Z) Z))))(c3:F.Z (F.sub (F.sub y y2) (F.mul l (F.sub x x2)))):F.Z (F.sub (F.sub (F.sub (F.mul (F.sub (F.mul y2 (F.mul (F.mul Z Z) Z)) Y) (F.sub (F.mul y2 (F.mul (F.mul Z Z) Z)) Y)) (F.mul (F.mul (F.sub (F.mul x2 (F.mul Z Z)) X) (F.sub (F.mul x2 (F.mul Z Z)) X)) (F.sub (F.mul x2 (F.mul Z Z)) X))) (F.add (F.mul X (F.mul (F.sub (F.mul x2 (F.mul Z Z)) X) (F.sub (F.mul x2 (F.mul Z Z)) X))) (F.mul X (F.mul (F.sub (F.mul x2 (F.mul Z Z)) X) (F.sub (F.mul x2 (F.mul Z Z)) X))))) (F.mul (F.sub (F.sub (F.mul l l) x) x2) (F.mul (F.mul Z (F.sub (F.mul x2 (F.mul Z Z)) X)) (F.mul Z (F.sub (F.mul x2 (F.mul Z Z)) X))))):=F.Z_by (fun k_=>match k_ with|0=>X|1=>Y|2=>Z|3=>l|4=>x|5=>y|6=>x2|7=>y2|_=>X) (e:=(V7*(V2*V2*V2)-V1)*(V7*(V2*V2*V2)-V1)-(V6*(V2*V2)-V0)*(V6*(V2*V2)-V0)*(V6*(V2*V2)-V0)-(V0*((V6*(V2*V2)-V0)*(V6*(V2*V2)-V0))+V0*((V6*(V2*V2)-V0)*(V6*(V2*V2)-V0)))-(V3*V3-V4-V6)*(V2*(V6*(V2*V2)-V0)*(V2*(V6*(V2*V2)-V0)))) (f:=(Cn (-1)*(V0*V0)+Cn (-1)*(V2*V2*V2*V2)*(V6*V6)+Cn (-1)*V0*(V2*V2)*(V3*V3)+Cn (-1)*V4*(V2*V2*V2*V2)*(V3*V3)+Cn 2*V0*V6*(V2*V2)+Cn 2*V6*(V2*V2*V2*V2)*(V3*V3))*(V0-V4*(V2*V2))+(V1+V5*(V2*V2*V2)+Cn (-2)*V7*(V2*V2*V2))*(V1-V5*(V2*V2*V2))+(V5*(V2*V2*V2*V2*V2*V2)+Cn (-1)*V7*(V2*V2*V2*V2*V2*V2)+V3*V4*(V2*V2*V2*V2*V2*V2)+Cn (-1)*V3*V6*(V2*V2*V2*V2*V2*V2))*(V5-V7-V3*(V4-V6))) (by decide +kernel) (F.za (F.za (F.zm' _ kx) (F.zm' _ ky)) (F.zm' _ c3))
theorem pl_y {X Y Z l x y x2 y2:α}(kx:F.Z (F.sub X (F.mul x (F.mul Z Z))))(ky:F.Z (F.sub Y (F.mul y (F.mul (F.mul Z Z) Z))))(c3:F.Z (F.sub (F.sub y y2) (F.mul l (F.sub x x2)))):F.Z (F.sub (F.sub (F.mul (F.sub (F.mul y2 (F.mul (F.mul Z Z) Z)) Y) (F.sub (F.mul X (F.mul (F.sub (F.mul x2 (F.mul Z Z)) X) (F.sub (F.mul x2 (F.mul Z Z)) X))) (F.sub (F.sub (F.mul (F.sub (F.mul y2 (F.mul (F.mul Z Z) Z)) Y) (F.sub (F.mul y2 (F.mul (F.mul Z Z) Z)) Y)) (F.mul (F.mul (F.sub (F.mul x2 (F.mul Z Z)) X) (F.sub (F.mul x2 (F.mul Z Z)) X)) (F.sub (F.mul x2 (F.mul Z Z)) X))) (F.add (F.mul X (F.mul (F.sub (F.mul x2 (F.mul Z Z)) X) (F.sub (F.mul x2 (F.mul Z Z)) X))) (F.mul X (F.mul (F.sub (F.mul x2 (F.mul Z Z)) X) (F.sub (F.mul x2 (F.mul Z Z)) X))))))) (F.mul Y (F.mul (F.mul (F.sub (F.mul x2 (F.mul Z Z)) X) (F.sub (F.mul x2 (F.mul Z Z)) X)) (F.sub (F.mul x2 (F.mul Z Z)) X)))) (F.mul (F.sub (F.mul l (F.sub x (F.sub (F.sub (F.mul l l) x) x2))) y) (F.mul (F.mul (F.mul Z (F.sub (F.mul x2 (F.mul Z Z)) X)) (F.mul Z (F.sub (F.mul x2 (F.mul Z Z)) X))) (F.mul Z (F.sub (F.mul x2 (F.mul Z Z)) X))))):=F.Z_by (fun k_=>match k_ with|0=>X|1=>Y|2=>Z|3=>l|4=>x|5=>y|6=>x2|7=>y2|_=>X) (e:=(V7*(V2*V2*V2)-V1)*(V0*((V6*(V2*V2)-V0)*(V6*(V2*V2)-V0))-((V7*(V2*V2*V2)-V1)*(V7*(V2*V2*V2)-V1)-(V6*(V2*V2)-V0)*(V6*(V2*V2)-V0)*(V6*(V2*V2)-V0)-(V0*((V6*(V2*V2)-V0)*(V6*(V2*V2)-V0))+V0*((V6*(V2*V2)-V0)*(V6*(V2*V2)-V0)))))-V1*((V6*(V2*V2)-V0)*(V6*(V2*V2)-V0)*(V6*(V2*V2)-V0))-(V3*(V4-(V3*V3-V4-V6))-V5)*(V2*(V6*(V2*V2)-V0)*(V2*(V6*(V2*V2)-V0))*(V2*(V6*(V2*V2)-V0)))) (f:=(Cn (-1)*V1*(V0*V0)+Cn (-1)*V1*(V2*V2*V2*V2)*(V4*V4)+Cn (-1)*V5*(V0*V0)*(V2*V2*V2)+Cn (-1)*V5*(V2*V2*V2*V2*V2*V2*V2)*(V4*V4)+Cn (-1)*(V0*V0)*(V2*V2*V2)*(V3*V3*V3)+Cn (-1)*(V2*V2*V2*V2*V2*V2*V2)*(V3*V3*V3)*(V4*V4)+Cn (-3)*V5*(V2*V2*V2*V2*V2*V2*V2)*(V6*V6)+Cn (-3)*(V2*V2*V2*V2*V2*V2*V2)*(V3*V3*V3)*(V6*V6)+Cn 2*V3*(V2*V2*V2*V2*V2*V2*V2)*(V4*V4*V4)+Cn 2*V7*(V0*V0)*(V2*V2*V2)+Cn 2*V7*(V2*V2*V2*V2*V2*V2*V2)*(V4*V4)+Cn 3*V1*(V2*V2*V2*V2)*(V6*V6)+Cn 3*V3*(V2*V2*V2*V2*V2*V2*V2)*(V6*V6*V6)+V3*V6*(V0*V0)*(V2*V2*V2)+Cn (-1)*V0*V1*V4*(V2*V2)+Cn (-1)*V0*V4*V5*(V2*V2*V2*V2*V2)+Cn (-1)*V0*V4*(V2*V2*V2*V2*V2)*(V3*V3*V3)+Cn (-5)*V3*V6*(V2*V2*V2*V2*V2*V2*V2)*(V4*V4)+Cn (-3)*V0*V3*(V2*V2*V2*V2*V2)*(V6*V6)+Cn (-3)*V0*V6*V7*(V2*V2*V2*V2*V2)+Cn (-3)*V4*V6*V7*(V2*V2*V2*V2*V2*V2*V2)+Cn 2*V0*V3*(V2*V2*V2*V2*V2)*(V4*V4)+Cn 2*V0*V4*V7*(V2*V2*V2*V2*V2)+Cn 2*V3*V4*(V0*V0)*(V2*V2*V2)+Cn 3*V0*V6*V5*(V2*V2*V2*V2*V2)+Cn 3*V0*V6*(V2*V2*V2*V2*V2)*(V3*V3*V3)+Cn 3*V3*V4*(V2*V2*V2*V2*V2*V2*V2)*(V6*V6)+Cn 3*V4*V6*V5*(V2*V2*V2*V2*V2*V2*V2)+Cn 3*V4*V6*(V2*V2*V2*V2*V2*V2*V2)*(V3*V3*V3)+Cn (-5)*V0*V3*V4*V6*(V2*V2*V2*V2*V2))*(V0-V4*(V2*V2))+(V1*V1+V2*V2*V2*V2*V2*V2*(V5*V5)+Cn (-1)*(V2*V2*V2*V2*V2*V2)*(V4*V4*V4)+Cn (-2)*(V2*V2*V2*V2*V2*V2)*(V6*V6*V6)+Cn 3*(V2*V2*V2*V2*V2*V2)*(V7*V7)+V1*V5*(V2*V2*V2)+Cn (-3)*V1*V7*(V2*V2*V2)+Cn (-3)*V5*V7*(V2*V2*V2*V2*V2*V2)+Cn 3*V4*(V2*V2*V2*V2*V2*V2)*(V6*V6))*(V1-V5*(V2*V2*V2))+(V2*V2*V2*V2*V2*V2*V2*V2*V2*(V5*V5)+V2*V2*V2*V2*V2*V2*V2*V2*V2*(V7*V7)+Cn (-1)*(V2*V2*V2*V2*V2*V2*V2*V2*V2)*(V6*V6*V6)+Cn (-2)*(V2*V2*V2*V2*V2*V2*V2*V2*V2)*(V4*V4*V4)+V2*V2*V2*V2*V2*V2*V2*V2*V2*(V3*V3)*(V4*V4)+V2*V2*V2*V2*V2*V2*V2*V2*V2*(V3*V3)*(V6*V6)+Cn (-2)*V5*V7*(V2*V2*V2*V2*V2*V2*V2*V2*V2)+Cn 3*V6*(V2*V2*V2*V2*V2*V2*V2*V2*V2)*(V4*V4)+V3*V4*V5*(V2*V2*V2*V2*V2*V2*V2*V2*V2)+V3*V6*V7*(V2*V2*V2*V2*V2*V2*V2*V2*V2)+Cn (-1)*V3*V4*V7*(V2*V2*V2*V2*V2*V2*V2*V2*V2)+Cn (-1)*V3*V6*V5*(V2*V2*V2*V2*V2*V2*V2*V2*V2)+Cn (-2)*V4*V6*(V2*V2*V2*V2*V2*V2*V2*V2*V2)*(V3*V3))*(V5-V7-V3*(V4-V6))) (by decide +kernel) (F.za (F.za (F.zm' _ kx) (F.zm' _ ky)) (F.zm' _ c3))
theorem pl_h {X Z x x2:α}(kx:F.Z (F.sub X (F.mul x (F.mul Z Z))))(hh:F.Z (F.sub (F.mul x2 (F.mul Z Z)) X)):F.Z (F.mul (F.sub x2 x) (F.mul Z Z)):=F.Z_by (fun k_=>match k_ with|0=>X|1=>X|2=>Z|3=>X|4=>x|5=>X|6=>x2|7=>X|_=>X) (e:=(V6-V4)*(V2*V2)) (f:=Cn 1*(V0-V4*(V2*V2))+Cn 1*(V6*(V2*V2)-V0)) (by decide +kernel) (F.za (F.zm' _ kx) (F.zm' _ hh))
theorem pl_hb {X Z x x2:α}(kx:F.Z (F.sub X (F.mul x (F.mul Z Z))))(hx:F.Z (F.sub x x2)):F.Z (F.sub (F.mul x2 (F.mul Z Z)) X):=F.Z_by (fun k_=>match k_ with|0=>X|1=>X|2=>Z|3=>X|4=>x|5=>X|6=>x2|7=>X|_=>X) (e:=V6*(V2*V2)-V0) (f:=Cn (-1)*(V0-V4*(V2*V2))+Cn (-1)*(V2*V2)*(V4-V6)) (by decide +kernel) (F.za (F.zm' _ kx) (F.zm' _ hx))
theorem pl_r {Y Z y y2:α}(ky:F.Z (F.sub Y (F.mul y (F.mul (F.mul Z Z) Z))))(hr:F.Z (F.sub (F.mul y2 (F.mul (F.mul Z Z) Z)) Y)):F.Z (F.mul (F.sub y2 y) (F.mul (F.mul Z Z) Z)):=F.Z_by (fun k_=>match k_ with|0=>Y|1=>Y|2=>Z|3=>Y|4=>Y|5=>y|6=>Y|7=>y2|_=>Y) (e:=(V7-V5)*(V2*V2*V2)) (f:=Cn 1*(V1-V5*(V2*V2*V2))+Cn 1*(V7*(V2*V2*V2)-V1)) (by decide +kernel) (F.za (F.zm' _ ky) (F.zm' _ hr))
theorem pl_rb {Y Z y y2:α}(ky:F.Z (F.sub Y (F.mul y (F.mul (F.mul Z Z) Z))))(hy:F.Z (F.sub y y2)):F.Z (F.sub (F.mul y2 (F.mul (F.mul Z Z) Z)) Y):=F.Z_by (fun k_=>match k_ with|0=>Y|1=>Y|2=>Z|3=>Y|4=>Y|5=>y|6=>Y|7=>y2|_=>Y) (e:=V7*(V2*V2*V2)-V1) (f:=Cn (-1)*(V1-V5*(V2*V2*V2))+Cn (-1)*(V2*V2*V2)*(V5-V7)) (by decide +kernel) (F.za (F.zm' _ ky) (F.zm' _ hy))
theorem jx {X Z x i:α}(kx:F.Z (F.sub X (F.mul x (F.mul Z Z))))(hi:F.Z (F.add (F.mul Z i) (F.int (-1)))):F.Z (F.sub (F.mul X (F.mul i i)) x):=F.Z_by (fun k_=>match k_ with|0=>X|1=>X|2=>Z|3=>X|4=>x|5=>X|6=>X|7=>X|_=>i) (e:=V0*(V8*V8)-V4) (f:=V8*V8*(V0-V4*(V2*V2))+V4*(V2*V8+Cn 1)*(V2*V8+Cn (-1))) (by decide +kernel) (F.za (F.zm' _ kx) (F.zm' _ hi))
theorem jy {Y Z y i:α}(ky:F.Z (F.sub Y (F.mul y (F.mul (F.mul Z Z) Z))))(hi:F.Z (F.add (F.mul Z i) (F.int (-1)))):F.Z (F.sub (F.mul Y (F.mul (F.mul i i) i)) y):=F.Z_by (fun k_=>match k_ with|0=>Y|1=>Y|2=>Z|3=>Y|4=>Y|5=>y|6=>Y|7=>Y|_=>i) (e:=V1*(V8*V8*V8)-V5) (f:=V8*V8*V8*(V1-V5*(V2*V2*V2))+V5*(V2*V2*(V8*V8)+V2*V8+Cn 1)*(V2*V8+Cn (-1))) (by decide +kernel) (F.za (F.zm' _ ky) (F.zm' _ hi))
def Rep (X Y Z:α):Pt α->Prop
 |none=>F.Z Z
 |some (x,y)=>¬F.Z Z/\F.eq X (F.mul x (F.mul Z Z))/\F.eq Y (F.mul y (F.mul (F.mul Z Z) Z))
theorem rep_eq {X Y Z:α}{A B:Pt α}(e:EqP F A B)(h:Rep F X Y Z A):Rep F X Y Z B:=by
 rcases A with _|⟨x,y⟩<;>rcases B with _|⟨x',y'⟩
 ·exact h
 ·exact e.elim
 ·exact e.elim
 ·exact⟨h.1,F.trans h.2.1 (F.mul_eq e.1 (F.refl _)),F.trans h.2.2 (F.mul_eq e.2 (F.refl _))⟩
theorem two_ne:¬F.Z (F.int 2):=nz_int F (by decide +kernel)
theorem sq_ne {a b:α}(h:¬F.Z a)(k:¬F.Z b):¬F.Z (F.mul a b):=fun z=>(F.zd z).elim h k
theorem rep_twice {b X Y Z:α}{A C:Pt α}(a:OnP F b A)(h:Rep F X Y Z A)(hs:Sum F A A C):Rep F (twX F X Y) (twY F X Y) (twZ F Y Z) C:=by
 rcases A with _|⟨x,y⟩
 ·have e:=sum_nl F hs
  rcases C with _|⟨x',y'⟩
  ·exact F.zm' _ (F.zm' _ h)
  ·exact e.elim
 ·obtain⟨hz,kx,ky⟩:=h
  cases hs with
  |op ho=>exact tw_o F ky ho.2
  |@sl _ _ _ _ l x3 y3 ho hl h3 k3=>
   have hy:¬F.Z (F.add y y):=fun k=>ho ⟨F.refl x,k⟩
   have hY:¬F.Z Y:=fun k=>by
    have h1:=(F.zd (tw_n F ky k)).resolve_right (sq_ne F (sq_ne F hz hz) hz)
    exact hy (F.za h1 h1)
   have hZ:¬F.Z (twZ F Y Z):=sq_ne F (two_ne F) (sq_ne F hY hz)
   have ex:F.eq (twX F X Y) (F.mul (Xs F l x x) (F.mul (twZ F Y Z) (twZ F Y Z))):=tw_x F kx ky hl.cc
   have ey:F.eq (twY F X Y) (F.mul (Ys F l x y (Xs F l x x)) (F.mul (F.mul (twZ F Y Z) (twZ F Y Z)) (twZ F Y Z))):=tw_y F kx ky hl.cc
   refine⟨hZ,F.trans ex (F.mul_eq (F.symm h3) (F.refl _)),F.trans ey (F.mul_eq (F.symm (F.trans k3 ?_)) (F.refl _))⟩
   exact Ys_eq F (F.refl _) (F.refl _) (F.refl _) h3
theorem rep_one (x y:α):Rep F x y (F.int 1) (some (x,y)):=by
 refine⟨nz_int F (by decide +kernel),?_,?_⟩
 ·have e:F.mul x (F.mul (F.int 1) (F.int 1))=x:=F.eq_of (fun _=>x) (e:=.m (.v 0) (.m (.n 1) (.n 1))) (f:=.v 0) rfl rfl (by decide)
  rw[e]
  exact F.refl _
 ·have e:F.mul y (F.mul (F.mul (F.int 1) (F.int 1)) (F.int 1))=y:=F.eq_of (fun _=>y) (e:=.m (.v 0) (.m (.m (.n 1) (.n 1)) (.n 1))) (f:=.v 0) rfl rfl (by decide)
  rw[e]
  exact F.refl _
theorem rep_plus_h {b X Y Z x2 y2:α}{A C:Pt α}(a:OnP F b A)(q:On F b x2 y2)(hz:¬F.Z Z)(h:Rep F X Y Z A)(hs:Sum F A (some (x2,y2)) C)(hh:¬F.Z (plH F X Z x2)) :
  Rep F (plX F X Y Z x2 y2) (plY F X Y Z x2 y2) (plZ F X Z x2) C:=by
 rcases A with _|⟨x,y⟩
 ·exact absurd h hz
 obtain⟨_,kx,ky⟩:=h
 cases hs with
 |op ho=>exact absurd (pl_hb F kx ho.1) hh
 |@sl _ _ _ _ l x3 y3 ho hl h3 k3=>
  have ex:F.eq (plX F X Y Z x2 y2) (F.mul (Xs F l x x2) (F.mul (plZ F X Z x2) (plZ F X Z x2))):=pl_x F kx ky hl.c3
  have ey:F.eq (plY F X Y Z x2 y2) (F.mul (Ys F l x y (Xs F l x x2)) (F.mul (F.mul (plZ F X Z x2) (plZ F X Z x2)) (plZ F X Z x2))):=pl_y F kx ky hl.c3
  refine⟨sq_ne F hz hh,F.trans ex (F.mul_eq (F.symm h3) (F.refl _)),F.trans ey (F.mul_eq (F.symm (F.trans k3 ?_)) (F.refl _))⟩
  exact Ys_eq F (F.refl _) (F.refl _) (F.refl _) h3
theorem rep_plus_t {b X Y Z x2 y2:α}{A C:Pt α}(a:OnP F b A)(hz:¬F.Z Z)(h:Rep F X Y Z A)(hs:Sum F A (some (x2,y2)) C)(hh:F.Z (plH F X Z x2))(hr:F.Z (plR F Y Z y2)) :
  Rep F (twX F X Y) (twY F X Y) (twZ F Y Z) C:=by
 rcases A with _|⟨x,y⟩
 ·exact absurd h hz
 obtain⟨_,kx,ky⟩:=h
 have h1:=(F.zd (pl_h F kx hh)).resolve_right (sq_ne F hz hz)
 have h2:=(F.zd (pl_r F ky hr)).resolve_right (sq_ne F (sq_ne F hz hz) hz)
 exact rep_twice F a ⟨hz,kx,ky⟩ (sum_eq F (eqP_refl F _) (B:=some (x2,y2)) (B':=some (x,y)) ⟨h1,h2⟩ (eqP_refl F _) hs)
theorem rep_plus_o {b X Y Z x2 y2:α}{A C:Pt α}(a:OnP F b A)(q:On F b x2 y2)(hz:¬F.Z Z)(h:Rep F X Y Z A)(hs:Sum F A (some (x2,y2)) C)(hh:F.Z (plH F X Z x2))(hr:¬F.Z (plR F Y Z y2))(u v w:α)(hw:F.Z w) :
  Rep F u v w C:=by
 rcases A with _|⟨x,y⟩
 ·exact absurd h hz
 obtain⟨_,kx,ky⟩:=h
 have h1:=(F.zd (pl_h F kx hh)).resolve_right (sq_ne F hz hz)
 have hx:F.Z (F.sub x x2):=F.symm h1
 have hy:=(F.zd (slope_y F a q hx)).resolve_left (fun k=>hr (pl_rb F ky k))
 have hC:=sum_un F hs (.op ⟨hx,hy⟩)
 rcases C with _|⟨x',y'⟩
 ·exact hw
 ·exact hC.elim
theorem rep_x {X Y Z x y:α}(h:Rep F X Y Z (some (x,y))):F.eq (F.mul X (F.mul (F.inv Z) (F.inv Z))) x/\F.eq (F.mul Y (F.mul (F.mul (F.inv Z) (F.inv Z)) (F.inv Z))) y:=
 ⟨jx F h.2.1 (F.zi h.1),jy F h.2.2 (F.zi h.1)⟩
end
end Ec
namespace Ec
set_option maxRecDepth 100000
open Go Ring
section
variable {α:Type} (F:Fd α)
theorem rep_congr {X Y Z X' Y' Z':α}{A:Pt α}(hX:F.eq X X')(hY:F.eq Y Y')(hZ:F.eq Z Z')(h:Rep F X Y Z A):Rep F X' Y' Z' A:=by
 rcases A with _|⟨x,y⟩
 ·exact F.Z_of hZ h
 ·have h2:=F.mul_eq hZ hZ
  exact⟨fun k=>h.1 (F.Z_of (F.symm hZ) k),F.trans (F.symm hX) (F.trans h.2.1 (F.mul_eq (F.refl _) h2)),F.trans (F.symm hY) (F.trans h.2.2 (F.mul_eq (F.refl _) (F.mul_eq h2 hZ)))⟩
section
variable [DecidablePred F.Z]
def pl3 (X Y Z x2 y2:α):α×α×α:=
 if F.Z Z then (x2,y2,F.int 1)
 else if F.Z (plH F X Z x2) then (if F.Z (plR F Y Z y2) then (twX F X Y,twY F X Y,twZ F Y Z) else (F.int 0,F.int 0,F.int 0))
 else (plX F X Y Z x2 y2,plY F X Y Z x2 y2,plZ F X Z x2)
theorem rep_plus {b X Y Z x2 y2:α}{A C:Pt α}(a:OnP F b A)(q:On F b x2 y2)(h:Rep F X Y Z A)(hs:Sum F A (some (x2,y2)) C):Rep F (pl3 F X Y Z x2 y2).1 (pl3 F X Y Z x2 y2).2.1 (pl3 F X Y Z x2 y2).2.2 C:=by
 unfold pl3
 by_cases hz:F.Z Z
 ·rw[if_pos hz]
  rcases A with _|⟨x,y⟩
  ·exact rep_eq F (sum_nl F hs) (rep_one F x2 y2)
  ·exact absurd hz h.1
 ·rw[if_neg hz]
  by_cases hh:F.Z (plH F X Z x2)
  ·rw[if_pos hh]
   by_cases hr:F.Z (plR F Y Z y2)
   ·rw[if_pos hr]
    exact rep_plus_t F a hz h hs hh hr
   ·rw[if_neg hr]
    exact rep_plus_o F a q hz h hs hh hr _ _ _ F.z0
  ·rw[if_neg hh]
   exact rep_plus_h F a q hz h hs hh
theorem step_two {b X Y Z:α}(hb:¬F.Z b){m:Nat}{A C:Pt α}(a:OnP F b A)(hm:Mult F m A C)(h:Rep F X Y Z C):∃D,Mult F (m+m) A D/\Rep F (twX F X Y) (twY F X Y) (twZ F Y Z) D:=by
 have c:=mult_on F a hm
 obtain⟨D,hD,_⟩:=sum_ex F c c
 exact⟨D,mult_add F hb a hm hm hD,rep_twice F c h hD⟩
theorem step_one {b X Y Z x2 y2:α}{m:Nat}{A C:Pt α}(a:OnP F b A)(q:EqP F (some (x2,y2)) A)(hm:Mult F m A C)(h:Rep F X Y Z C) :
  ∃D,Mult F (m+1) A D/\Rep F (pl3 F X Y Z x2 y2).1 (pl3 F X Y Z x2 y2).2.1 (pl3 F X Y Z x2 y2).2.2 D:=by
 have c:=mult_on F a hm
 obtain⟨D,hD,_⟩:=sum_ex F c a
 exact⟨D,⟨C,hm,hD⟩,rep_plus F c (onP_eq F (eqP_symm F q) a) h (sum_eq F (eqP_refl F _) (eqP_symm F q) (eqP_refl F _) hD)⟩
def normP (X Y Z:α):Pt α:=if F.Z Z then none else some (F.mul X (F.mul (F.inv Z) (F.inv Z)),F.mul Y (F.mul (F.mul (F.inv Z) (F.inv Z)) (F.inv Z)))
theorem norm_rep {X Y Z:α}{C:Pt α}(h:Rep F X Y Z C):EqP F (normP F X Y Z) C:=by
 unfold normP
 rcases C with _|⟨x,y⟩
 ·rw[if_pos (show F.Z Z from h)]
  trivial
 ·rw[if_neg h.1]
  exact rep_x F h
end
end
end Ec
namespace Ec
set_option maxRecDepth 100000
open Go Ring
section
variable {α:Type} (F:Fd α) [DecidablePred F.Z] {b:α}
def jst (red:α->α)(x2 y2:α)(d:Bool)(X Y Z:α):α×α×α:=
 match d with
 |true=>let e:=pl3 F (red (twX F X Y)) (red (twY F X Y)) (red (twZ F Y Z)) x2 y2
  (red e.1,red e.2.1,red e.2.2)
 |false=>(red (twX F X Y),red (twY F X Y),red (twZ F Y Z))
def jn (red:α->α)(x2 y2:α):Nat->Nat->α×α×α
 |0,_=>(x2,y2,F.int 1)
 |f+1,n=>if n<=1 then (x2,y2,F.int 1) else
  let e:=jn red x2 y2 f (n/2)
  jst F red x2 y2 (n%2==1) e.1 e.2.1 e.2.2
theorem jn_ok (hb:¬F.Z b){red:α->α}(hr:∀a,F.eq a (red a)){x2 y2:α}(a:OnP F b (some (x2,y2))):∀(f n:Nat),1<=n->n<2^(f+1)->∃C,Mult F n (some (x2,y2)) C/\Rep F (jn F red x2 y2 f n).1 (jn F red x2 y2 f n).2.1 (jn F red x2 y2 f n).2.2 C
 |0,n,h1,h2=>by
  obtain rfl:n=1:=by omega
  exact⟨_,mult_one F,rep_one F x2 y2⟩
 |f+1,n,h1,h2=>by
  unfold jn
  by_cases hn:n<=1
  ·rw[if_pos hn]
   obtain rfl:n=1:=by omega
   exact⟨_,mult_one F,rep_one F x2 y2⟩
  ·rw[if_neg hn]
   obtain⟨C,hC,hR⟩:=jn_ok hb hr a f (n/2) (by omega) (by rw[Nat.pow_succ] at h2;omega)
   obtain⟨D,hD,hR2⟩:=step_two F hb a hC hR
   have hR3:=rep_congr F (hr _) (hr _) (hr _) hR2
   have e:=Nat.div_add_mod n 2
   by_cases hd:n%2=1
   ·have hd':(n%2==1)=true:=by simp[hd]
    simp only[hd',jst]
    obtain⟨E,hE,hR4⟩:=step_one F a (eqP_refl F _) hD hR3
    refine⟨E,?_,rep_congr F (hr _) (hr _) (hr _) hR4⟩
    rwa [show n/2+n/2+1=n by omega] at hE
   ·have hd':(n%2==1)=false:=by simp[hd]
    simp only[hd',jst]
    refine⟨D,?_,hR3⟩
    rwa [show n/2+n/2=n by omega] at hD
theorem jn_nil (hb:¬F.Z b){red:α->α}(hr:∀a,F.eq a (red a)){x2 y2:α}(a:OnP F b (some (x2,y2))){f n:Nat}(h1:1<=n)(h2:n<2^(f+1))(h:F.Z (jn F red x2 y2 f n).2.2):Mult F n (some (x2,y2)) none:=by
 obtain⟨C,hC,hR⟩:=jn_ok F hb hr a f n h1 h2
 rcases C with _|⟨x,y⟩
 ·exact hC
 ·exact absurd h hR.1
theorem jn_at (hb:¬F.Z b){red:α->α}(hr:∀a,F.eq a (red a)){x2 y2 u v:α}(a:OnP F b (some (x2,y2))){f n:Nat}(h1:1<=n)(h2:n<2^(f+1))(hz:¬F.Z (jn F red x2 y2 f n).2.2)(hx:F.eq (jn F red x2 y2 f n).1 (F.mul u (F.mul (jn F red x2 y2 f n).2.2 (jn F red x2 y2 f n).2.2)))(hy:F.eq (jn F red x2 y2 f n).2.1 (F.mul v (F.mul (F.mul (jn F red x2 y2 f n).2.2 (jn F red x2 y2 f n).2.2) (jn F red x2 y2 f n).2.2))):Mult F n (some (x2,y2)) (some (u,v)):=by
 obtain⟨C,hC,hR⟩:=jn_ok F hb hr a f n h1 h2
 rcases C with _|⟨x,y⟩
 ·exact absurd hR hz
 ·obtain⟨_,r1,r2⟩:=hR
  have h4:¬F.Z (F.mul (jn F red x2 y2 f n).2.2 (jn F red x2 y2 f n).2.2):=fun k=>(F.zd k).elim hz hz
  exact mult_eq F (eqP_refl F _) (show EqP F (some (x,y)) (some (u,v)) from⟨F.cancel h4 (F.trans (F.symm r1) hx),F.cancel (fun k=>(F.zd k).elim h4 hz) (F.trans (F.symm r2) hy)⟩) hC
end
end Ec
end Go.Proofs.YtjamcbjghffboaaGreatDoor
