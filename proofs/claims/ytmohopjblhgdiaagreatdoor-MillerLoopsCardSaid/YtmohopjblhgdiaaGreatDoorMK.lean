/-
  Own text. Layer 5: squares modulo p: their roots, which are one number and its opposite; of these just one is even. Speaks of no landed body.
-/
import Derived.Test.YtmohopjblhgdiaaGreatDoorMFpN
import Derived.Test.YtmohopjblhgdiaaGreatDoorMFp2M
import Derived.Test.YtmohopjblhgdiaaGreatDoorMRegT
import Derived.Test.YtmohopjblhgdiaaGreatDoorFp2Spec
import Derived.Test.YtmohopjblhgdiaaGreatDoorMLimbR
namespace Go.Proofs.YtmohopjblhgdiaaGreatDoor.Fpr
set_option linter.unusedVariables false
open Go Go.RowKit Go.Proofs.YtmohopjblhgdiaaGreatDoor.Reg Go.Proofs.YtmohopjblhgdiaaGreatDoor.Base Go.Proofs.YtmohopjblhgdiaaGreatDoor.Limb Go.Proofs.YtmohopjblhgdiaaGreatDoor.Num Go.Proofs.YtmohopjblhgdiaaGreatDoor.Fp

/-- (p + 1) / 4, and (p - 1) / 2. -/
def QQ : Int := 1000602388805416848354447456433976039139220704984751971333014534031007912622709466110671907282253916009473568139947
def HH : Int := 2001204777610833696708894912867952078278441409969503942666029068062015825245418932221343814564507832018947136279893
def qL : List Int := [17185665809301629611, 552535377879302143, 15693976698673184137, 15644892545385841839, 10576397981472451381, 468449654411884966]
theorem qL_words : Words qL := words_of _ (by decide)
/-- A number is a square: it is 0, or its power of (p - 1) / 2 is 1. -/
def sq (x : Int) : Bool := decide (x % PP = 0 ∨ pw x HH % PP = 1)
/-- Of a number and its opposite that which is even. -/
def ev (x : Int) : List Int := if (x % PP) % 2 = 0 then fe x else fe (-x)
theorem neg_mod {x : Int} (h : x % PP ≠ 0) : (-x) % PP = PP - x % PP := by
  rw [neg_out (y := x) |> fun e => show (-x) % PP = (-(x % PP)) % PP by rw [e, Int.add_mul_emod_self_left]]
  have b := fe_mod x
  rw [show -(x % PP) = PP - x % PP + PP * (-1) by omega, Int.add_mul_emod_self_left]
  exact Int.emod_eq_of_lt (by omega) (by omega)
/-- The even root of a square. -/
def root (x : Int) : List Int := ev (pw x QQ)
end Go.Proofs.YtmohopjblhgdiaaGreatDoor.Fpr

/-
  Own text. Layer 5: words for its walks.
-/
namespace Go.Proofs.YtmohopjblhgdiaaGreatDoor.Fpr
set_option linter.unusedVariables false
open Go Go.RowKit Go.Proofs.YtmohopjblhgdiaaGreatDoor.Reg Go.Proofs.YtmohopjblhgdiaaGreatDoor.Base Go.Proofs.YtmohopjblhgdiaaGreatDoor.Limb Go.Proofs.YtmohopjblhgdiaaGreatDoor.Bits Go.Proofs.YtmohopjblhgdiaaGreatDoor.Fp

/-- A number is greater than its opposite. -/
def big (x : Int) : Bool := decide (num (fe (-x)) < num (fe x))
/-- A number's lowest bit. -/
def sgn (x : Int) : Int := x % PP % 2
end Go.Proofs.YtmohopjblhgdiaaGreatDoor.Fpr

/-
  Own text. Layer 5: what its statements ask of numbers modulo p. Speaks of no landed body.
-/
namespace Go.Proofs.YtmohopjblhgdiaaGreatDoor.Fpr
set_option linter.unusedVariables false
open Go Go.RowKit Go.Proofs.YtmohopjblhgdiaaGreatDoor.Reg Go.Proofs.YtmohopjblhgdiaaGreatDoor.Base Go.Proofs.YtmohopjblhgdiaaGreatDoor.Limb Go.Proofs.YtmohopjblhgdiaaGreatDoor.Bits Go.Proofs.YtmohopjblhgdiaaGreatDoor.Fp

theorem w4 : Words [4, 0, 0, 0, 0, 0] := words_of _ (by decide)
theorem w3 : Words [3, 0, 0, 0, 0, 0] := words_of _ (by decide)
theorem w1 : Words [1, 0, 0, 0, 0, 0] := words_of _ (by decide)
end Go.Proofs.YtmohopjblhgdiaaGreatDoor.Fpr

/-
  Own text. Squares among the numbers with u: which there are, their roots, the root with an even sign. Speaks of no program.
-/
namespace Go.Proofs.YtmohopjblhgdiaaGreatDoor.Fp2r
set_option linter.unusedVariables false
open Go Go.RowKit Go.Proofs.YtmohopjblhgdiaaGreatDoor.Reg Go.Proofs.YtmohopjblhgdiaaGreatDoor.Base Go.Proofs.YtmohopjblhgdiaaGreatDoor.Limb Go.Proofs.YtmohopjblhgdiaaGreatDoor.Fp Go.Proofs.YtmohopjblhgdiaaGreatDoor.Fpr Go.Proofs.YtmohopjblhgdiaaGreatDoor.Fp2 Go.Proofs.YtmohopjblhgdiaaGreatDoor.Num

/-- Whether a number with u is a square. -/
def gsq (p : G) : Bool := sq (gnorm p)
/-- A root by two powers, as the document's answer takes it (4 L + 3 is p). -/
def rt (L : Nat) (p : G) : G :=
  if E2 (gm (gp p L) (gm (gp p L) p)) (-1, 0) then gm (gm (gp p L) p) (0, 1) else gm (gp (ga (1, 0) (gm (gp p L) (gm (gp p L) p))) (2 * L + 1)) (gm (gp p L) p)
where E2 (p q : G) : Bool := decide (p.1 % PP = q.1 % PP ∧ p.2 % PP = q.2 % PP)
/-! Signs. -/
def sg2 (p : G) : Int := if p.1 % PP = 0 then sgn p.2 else sgn p.1
def big2 (p : G) : Bool := if p.2 % PP = 0 then big p.1 else big p.2
/-- Of a number and its opposite the one with the sign 0. -/
def ev2 (p : G) : List Int := if sg2 p = 0 then F2 p else F2 (gn p)
/-- The root that the document asks. -/
def root2 (p : G) : List Int := ev2 (rt ((PP.toNat - 3) / 4) p)
/-! Squares, norms, products. -/
end Go.Proofs.YtmohopjblhgdiaaGreatDoor.Fp2r

/-
  Own text. Numbers with v over numbers with u: three parts of twelve words. Speaks of no landed body.
-/
namespace Go.Proofs.YtmohopjblhgdiaaGreatDoor.Fp6
set_option linter.unusedVariables false
open Go Go.RowKit Go.Proofs.YtmohopjblhgdiaaGreatDoor.Reg Go.Proofs.YtmohopjblhgdiaaGreatDoor.Base Go.Proofs.YtmohopjblhgdiaaGreatDoor.Limb Go.Proofs.YtmohopjblhgdiaaGreatDoor.Fp Go.Proofs.YtmohopjblhgdiaaGreatDoor.Fp2

/-- Numbers A + B v + C v v, whose parts are numbers with u. -/
abbrev H := G × G × G
/-- Times 1 + u. -/
def gx (p : G) : G := gm p (1, 1)
def ha (p q : H) : H := (ga p.1 q.1, ga p.2.1 q.2.1, ga p.2.2 q.2.2)
def hs (p q : H) : H := (gs p.1 q.1, gs p.2.1 q.2.1, gs p.2.2 q.2.2)
def hn (p : H) : H := (gn p.1, gn p.2.1, gn p.2.2)
def hk (p : H) (k : G) : H := (gm p.1 k, gm p.2.1 k, gm p.2.2 k)
def hm (p q : H) : H :=
  (ga (gm p.1 q.1) (gx (ga (gm p.2.1 q.2.2) (gm p.2.2 q.2.1))), ga (ga (gm p.1 q.2.1) (gm p.2.1 q.1)) (gx (gm p.2.2 q.2.2)), ga (ga (gm p.1 q.2.2) (gm p.2.1 q.2.1)) (gm p.2.2 q.1))
/-- Times v. -/
def hv (p : H) : H := (gx p.2.2, p.1, p.2.1)
/-- What a number is multiplied by to have the first part alone. -/
def hc (p : H) : H := (gs (gm p.1 p.1) (gx (gm p.2.1 p.2.2)), gs (gx (gm p.2.2 p.2.2)) (gm p.1 p.2.1), gs (gm p.2.1 p.2.1) (gm p.1 p.2.2))
def hi (p : H) : H := hk (hc p) (gi (hm p (hc p)).1)
def F6 (p : H) : List Int := F2 p.1 ++ F2 p.2.1 ++ F2 p.2.2
def v6 (l : List Int) : H := (v2 (seg 0 12 l), v2 (seg 12 12 l), v2 (seg 24 12 l))
def E6 (p q : H) : Prop := E2 p.1 q.1 ∧ E2 p.2.1 q.2.1 ∧ E2 p.2.2 q.2.2
theorem E6.rfl {p : H} : E6 p p := ⟨E2.rfl, E2.rfl, E2.rfl⟩
theorem E6.symm {p q : H} (h : E6 p q) : E6 q p := ⟨h.1.symm, h.2.1.symm, h.2.2.symm⟩
theorem E6.trans {p q r : H} (h : E6 p q) (h' : E6 q r) : E6 p r := ⟨h.1.trans h'.1, h.2.1.trans h'.2.1, h.2.2.trans h'.2.2⟩
theorem F6_eq {p q : H} (h : E6 p q) : F6 p = F6 q := by rw [F6, F6, F2_eq h.1, F2_eq h.2.1, F2_eq h.2.2]
theorem Nm.F6 (p : H) : Nm 36 (F6 p) := ((Nm.F2 _).app (Nm.F2 _)).app (Nm.F2 _)
theorem seg_F6a (p : H) : seg 0 12 (F6 p) = F2 p.1 := by
  show (F2 p.1 ++ F2 p.2.1 ++ F2 p.2.2).take 12 = _
  rw [List.append_assoc, List.take_left' (Nm.F2 _).len]
theorem seg_F6b (p : H) : seg 12 12 (F6 p) = F2 p.2.1 := by
  rw [seg, Fp6.F6, List.append_assoc, List.drop_left' (Nm.F2 _).len, List.take_left' (Nm.F2 _).len]
theorem seg_F6c (p : H) : seg 24 12 (F6 p) = F2 p.2.2 := by
  rw [seg, Fp6.F6, List.drop_left' ((Nm.F2 p.1).app (Nm.F2 p.2.1)).len, List.take_of_length_le (by rw [(Nm.F2 _).len]; omega)]
theorem v6_F6 (p : H) : E6 (v6 (F6 p)) p := by
  rw [v6, seg_F6a, seg_F6b, seg_F6c]
  exact ⟨v2_F2 _, v2_F2 _, v2_F2 _⟩
section
variable {p p' q q' : H} {k k' : G}
theorem gx_congr {a b : G} (h : E2 a b) : E2 (gx a) (gx b) := gm_congr h E2.rfl
theorem ha_congr (h : E6 p p') (h' : E6 q q') : E6 (ha p q) (ha p' q') := ⟨ga_congr h.1 h'.1, ga_congr h.2.1 h'.2.1, ga_congr h.2.2 h'.2.2⟩
theorem hs_congr (h : E6 p p') (h' : E6 q q') : E6 (hs p q) (hs p' q') := ⟨gs_congr h.1 h'.1, gs_congr h.2.1 h'.2.1, gs_congr h.2.2 h'.2.2⟩
theorem hk_congr (h : E6 p p') (h' : E2 k k') : E6 (hk p k) (hk p' k') := ⟨gm_congr h.1 h', gm_congr h.2.1 h', gm_congr h.2.2 h'⟩
theorem hm_congr (h : E6 p p') (h' : E6 q q') : E6 (hm p q) (hm p' q') :=
  ⟨ga_congr (gm_congr h.1 h'.1) (gx_congr (ga_congr (gm_congr h.2.1 h'.2.2) (gm_congr h.2.2 h'.2.1))),
   ga_congr (ga_congr (gm_congr h.1 h'.2.1) (gm_congr h.2.1 h'.1)) (gx_congr (gm_congr h.2.2 h'.2.2)),
   ga_congr (ga_congr (gm_congr h.1 h'.2.2) (gm_congr h.2.1 h'.2.1)) (gm_congr h.2.2 h'.1)⟩
theorem hc_congr (h : E6 p p') : E6 (hc p) (hc p') :=
  ⟨gs_congr (gm_congr h.1 h.1) (gx_congr (gm_congr h.2.1 h.2.2)), gs_congr (gx_congr (gm_congr h.2.2 h.2.2)) (gm_congr h.1 h.2.1), gs_congr (gm_congr h.2.1 h.2.1) (gm_congr h.1 h.2.2)⟩
theorem hi_congr (h : E6 p p') : E6 (hi p) (hi p') := hk_congr (hc_congr h) (gi_congr (hm_congr h (hc_congr h)).1)
end
section
variable (p q r : H)
theorem hext {p q : H} (h1 : p.1 = q.1) (h2 : p.2.1 = q.2.1) (h3 : p.2.2 = q.2.2) : p = q := Prod.ext h1 (Prod.ext h2 h3)
theorem hm_comm : hm p q = hm q p := by
  obtain ⟨⟨a0, a1⟩, ⟨b0, b1⟩, c0, c1⟩ := p
  obtain ⟨⟨d0, d1⟩, ⟨e0, e1⟩, f0, f1⟩ := q
  apply hext <;> apply Prod.ext <;> simp only [hm, ga, gm, gx] <;> grind
theorem hm_ha : hm p (ha q r) = ha (hm p q) (hm p r) := by
  obtain ⟨⟨a0, a1⟩, ⟨b0, b1⟩, c0, c1⟩ := p
  obtain ⟨⟨d0, d1⟩, ⟨e0, e1⟩, f0, f1⟩ := q
  obtain ⟨⟨x0, x1⟩, ⟨y0, y1⟩, z0, z1⟩ := r
  apply hext <;> apply Prod.ext <;> simp only [hm, ha, ga, gm, gx] <;> grind
theorem hm_v : hm p ((0, 0), (1, 0), (0, 0)) = hv p := by
  obtain ⟨⟨a0, a1⟩, ⟨b0, b1⟩, c0, c1⟩ := p
  apply hext <;> apply Prod.ext <;> simp only [hm, hv, ga, gm, gx] <;> grind
end
end Go.Proofs.YtmohopjblhgdiaaGreatDoor.Fp6

/-
  Own text. Numbers with v: 1 + u is no cube, so each number but 0 has an inverse. Speaks of no program.
-/
namespace Go.Proofs.YtmohopjblhgdiaaGreatDoor.Fp6
set_option linter.unusedVariables false
open Go Go.RowKit Go.Proofs.YtmohopjblhgdiaaGreatDoor.Reg Go.Proofs.YtmohopjblhgdiaaGreatDoor.Base Go.Proofs.YtmohopjblhgdiaaGreatDoor.Limb Go.Proofs.YtmohopjblhgdiaaGreatDoor.Fp Go.Proofs.YtmohopjblhgdiaaGreatDoor.Fp2 Go.Proofs.YtmohopjblhgdiaaGreatDoor.Fp2r Go.Proofs.YtmohopjblhgdiaaGreatDoor.Num

def cube (p : G) : G := gm (gm p p) p
def norm6 (p : H) : G := (hm p (hc p)).1
/-- 0 modulo p. -/
def Z6 (p : H) : Prop := Z2 p.1 ∧ Z2 p.2.1 ∧ Z2 p.2.2
def O36 : H := ((0, 0), (0, 0), (0, 0))
theorem Z6.congr {p q : H} (h : E6 p q) (hz : Z6 p) : Z6 q := ⟨Z2.congr h.1 hz.1, Z2.congr h.2.1 hz.2.1, Z2.congr h.2.2 hz.2.2⟩
end Go.Proofs.YtmohopjblhgdiaaGreatDoor.Fp6

/-
  Own text. Numbers with w over numbers with v: two parts of thirty-six words. Speaks of no landed body.
-/
namespace Go.Proofs.YtmohopjblhgdiaaGreatDoor.Fp12
set_option linter.unusedVariables false
open Go Go.RowKit Go.Proofs.YtmohopjblhgdiaaGreatDoor.Reg Go.Proofs.YtmohopjblhgdiaaGreatDoor.Base Go.Proofs.YtmohopjblhgdiaaGreatDoor.Limb Go.Proofs.YtmohopjblhgdiaaGreatDoor.Fp Go.Proofs.YtmohopjblhgdiaaGreatDoor.Fp2 Go.Proofs.YtmohopjblhgdiaaGreatDoor.Fp6

/-- Numbers A + B w, whose parts are numbers with v. -/
abbrev K := H × H
def ka (p q : K) : K := (ha p.1 q.1, ha p.2 q.2)
def ks (p q : K) : K := (hs p.1 q.1, hs p.2 q.2)
def kn (p : K) : K := (hn p.1, hn p.2)
def kc (p : K) : K := (p.1, hn p.2)
def km (p q : K) : K := (ha (hm p.1 q.1) (hv (hm p.2 q.2)), ha (hm p.1 q.2) (hm p.2 q.1))
def kk (p : K) (x : H) : K := (hm p.1 x, hm p.2 x)
def ki (p : K) : K := kk (kc p) (hi (km p (kc p)).1)
def k1 : K := (((1, 0), (0, 0), (0, 0)), O36)
def kp (p : K) : Nat → K
  | 0 => k1
  | n + 1 => km (kp p n) p
def F12 (p : K) : List Int := F6 p.1 ++ F6 p.2
def v12 (l : List Int) : K := (v6 (seg 0 36 l), v6 (seg 36 36 l))
def E12 (p q : K) : Prop := E6 p.1 q.1 ∧ E6 p.2 q.2
theorem E12.rfl {p : K} : E12 p p := ⟨E6.rfl, E6.rfl⟩
theorem E12.symm {p q : K} (h : E12 p q) : E12 q p := ⟨h.1.symm, h.2.symm⟩
theorem E12.trans {p q r : K} (h : E12 p q) (h' : E12 q r) : E12 p r := ⟨h.1.trans h'.1, h.2.trans h'.2⟩
theorem F12_eq {p q : K} (h : E12 p q) : F12 p = F12 q := by rw [F12, F12, F6_eq h.1, F6_eq h.2]
theorem Nm.F12 (p : K) : Nm 72 (F12 p) := (Nm.F6 _).app (Nm.F6 _)
theorem seg_F12a (p : K) : seg 0 36 (F12 p) = F6 p.1 := List.take_left' (Nm.F6 _).len
theorem seg_F12b (p : K) : seg 36 36 (F12 p) = F6 p.2 := by
  rw [seg, Fp12.F12, List.drop_left' (Nm.F6 _).len, List.take_of_length_le (by rw [(Nm.F6 _).len]; omega)]
theorem v12_F12 (p : K) : E12 (v12 (F12 p)) p := by
  rw [v12, seg_F12a, seg_F12b]
  exact ⟨v6_F6 _, v6_F6 _⟩
theorem hv_congr {p q : H} (h : E6 p q) : E6 (hv p) (hv q) := ⟨gx_congr h.2.2, h.1, h.2.1⟩
section
variable {p p' q q' : K} {x x' : H}
theorem km_congr (h : E12 p p') (h' : E12 q q') : E12 (km p q) (km p' q') :=
  ⟨ha_congr (hm_congr h.1 h'.1) (hv_congr (hm_congr h.2 h'.2)), ha_congr (hm_congr h.1 h'.2) (hm_congr h.2 h'.1)⟩
end
/-! Numbers with v: what is asked of them. -/
section
variable (a b c d : H)
theorem ha_hm : hm (ha a b) c = ha (hm a c) (hm b c) := by rw [hm_comm, hm_ha, hm_comm c a, hm_comm c b]
end
section
variable (p q r : K)
end
/-! Inverses. -/
def Z12 (p : K) : Prop := Z6 p.1 ∧ Z6 p.2
theorem Z12.congr {p q : K} (h : E12 p q) (hz : Z12 p) : Z12 q := ⟨Z6.congr h.1 hz.1, Z6.congr h.2 hz.2⟩
def norm12 (p : K) : H := (km p (kc p)).1
end Go.Proofs.YtmohopjblhgdiaaGreatDoor.Fp12

/-
  Own text. '==' on numbers with w.
-/
namespace Go.Proofs.YtmohopjblhgdiaaGreatDoor.Fp12
set_option maxRecDepth 100000
open Go Go.RowKit Go.Proofs.YtmohopjblhgdiaaGreatDoor.Reg
theorem eqok6__ : EqOK Tryz.prog 9997 24 6 := eqok_arr (d := 9995) Tryz.underlying24 Tryz.underlying22 (by kernel_rfl) (by kernel_rfl)
theorem eqok2__ : EqOK Tryz.prog 9998 26 12 := eqok_parts (n := 6) (m := 2) eqok6__ Tryz.underlying24 rfl (by kernel_rfl) Tryz.underlying26 (by kernel_rfl) (by kernel_rfl)
theorem eqokh__ : EqOK Tryz.prog 9999 33 36 := eqok_parts (n := 12) (m := 3) eqok2__ Tryz.underlying26 rfl (by kernel_rfl) Tryz.underlying33 (by kernel_rfl) (by kernel_rfl)
theorem eqokk : EqOK Tryz.prog 10000 35 72 := eqok_parts (n := 36) (m := 2) eqokh__ Tryz.underlying33 rfl (by kernel_rfl) Tryz.underlying35 (by kernel_rfl) (by kernel_rfl)
theorem gdk : Tryz.prog.eqGuardType Tryz.prog.depth 35 = false := by kernel_rfl
end Go.Proofs.YtmohopjblhgdiaaGreatDoor.Fp12

/-
  Own text. What layer 10's statements compare; powers of numbers with w by digits of four bits.
-/
namespace Go.Proofs.YtmohopjblhgdiaaGreatDoor.Fp12
set_option linter.unusedVariables false
set_option linter.unusedSimpArgs false
open Go Go.RowKit Go.Proofs.YtmohopjblhgdiaaGreatDoor.Reg Go.Proofs.YtmohopjblhgdiaaGreatDoor.Base Go.Proofs.YtmohopjblhgdiaaGreatDoor.Limb Go.Proofs.YtmohopjblhgdiaaGreatDoor.Fp Go.Proofs.YtmohopjblhgdiaaGreatDoor.Fp2 Go.Proofs.YtmohopjblhgdiaaGreatDoor.Fp6

def O72 : List Int := [1, 0, 0, 0, 0, 0] ++ List.replicate 66 0
theorem nm_O72 : Nm 72 O72 := ⟨rfl, words_of _ (by decide)⟩
def N72d : List Int := List.replicate 72 0
def W72d : List Int := List.replicate 36 0 ++ [1, 0, 0, 0, 0, 0] ++ List.replicate 30 0
def V72d : List Int := List.replicate 12 0 ++ [1, 0, 0, 0, 0, 0] ++ List.replicate 54 0
def X72d : List Int := [1, 0, 0, 0, 0, 0, 1, 0, 0, 0, 0, 0] ++ List.replicate 60 0
section
variable (p q r : K)
end

def N36z : List Int := List.replicate 36 0
section
variable (p q : K)
end
section
variable {a b : List Int}
end

end Go.Proofs.YtmohopjblhgdiaaGreatDoor.Fp12

