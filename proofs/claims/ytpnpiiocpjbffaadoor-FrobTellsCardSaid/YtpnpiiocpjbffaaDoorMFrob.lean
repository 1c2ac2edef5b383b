/-
  Own text. A number with w to the power of p: sums and products go over, a number with u becomes its conjugate, w is multiplied by a power of 1 + u. Speaks of no program.
-/
import Derived.Test.YtpnpiiocpjbffaaDoorFp12Spec
import Derived.Test.YtpnpiiocpjbffaaDoorFp12Lem
import Derived.Test.YtpnpiiocpjbffaaDoorFpGD
namespace Go.Proofs.YtpnpiiocpjbffaaDoor.Frob
set_option linter.unusedVariables false
open Go Go.RowKit Go.Proofs.YtpnpiiocpjbffaaDoor.Reg Go.Proofs.YtpnpiiocpjbffaaDoor.Base Go.Proofs.YtpnpiiocpjbffaaDoor.Limb Go.Proofs.YtpnpiiocpjbffaaDoor.Fp Go.Proofs.YtpnpiiocpjbffaaDoor.Fp2 Go.Proofs.YtpnpiiocpjbffaaDoor.Fp6 Go.Proofs.YtpnpiiocpjbffaaDoor.Fp12

def k0 : K := (O36, O36)
/-- So many times a number. -/
def sh (p : H) (c : Int) : H := (gk p.1 c, gk p.2.1 c, gk p.2.2 c)
def sc (p : K) (c : Int) : K := (sh p.1 c, sh p.2 c)
section
variable (p q r s : K) (x y : H) (c d : Int)
theorem gk_add (g : G) : gk g (c + d) = ga (gk g c) (gk g d) := by
  apply Prod.ext <;> simp only [gk, ga] <;> grind
theorem sc_add : sc p (c + d) = ka (sc p c) (sc p d) := Prod.ext (hext (gk_add _ _ _) (gk_add _ _ _) (gk_add _ _ _)) (hext (gk_add _ _ _) (gk_add _ _ _) (gk_add _ _ _))
theorem hm_sh : hm x (sh y c) = sh (hm x y) c := by
  obtain ⟨⟨a0, a1⟩, ⟨b0, b1⟩, c0, c1⟩ := x
  obtain ⟨⟨d0, d1⟩, ⟨e0, e1⟩, f0, f1⟩ := y
  apply hext <;> apply Prod.ext <;> simp only [hm, sh, gk, ga, gm, gx] <;> grind
theorem hv_sh : hv (sh x c) = sh (hv x) c := by
  obtain ⟨⟨a0, a1⟩, ⟨b0, b1⟩, c0, c1⟩ := x
  apply hext <;> apply Prod.ext <;> simp only [hv, sh, gk, gm, gx] <;> grind
theorem ha_sh : Fp6.ha (sh x c) (sh y c) = sh (Fp6.ha x y) c := by
  obtain ⟨⟨a0, a1⟩, ⟨b0, b1⟩, c0, c1⟩ := x
  obtain ⟨⟨d0, d1⟩, ⟨e0, e1⟩, f0, f1⟩ := y
  apply hext <;> apply Prod.ext <;> simp only [Fp6.ha, sh, gk, ga] <;> grind
theorem km_sc : km p (sc q c) = sc (km p q) c := by
  refine Prod.ext ?_ ?_
  · show Fp6.ha (hm p.1 (sh q.1 c)) (hv (hm p.2 (sh q.2 c))) = sh (Fp6.ha _ _) c
    rw [hm_sh, hm_sh, hv_sh, ha_sh]
  · show Fp6.ha (hm p.1 (sh q.2 c)) (hm p.2 (sh q.1 c)) = sh (Fp6.ha _ _) c
    rw [hm_sh, hm_sh, ha_sh]
theorem ka_swap : ka (ka p q) (ka r s) = ka (ka p r) (ka q s) := Prod.ext (ha_swap _ _ _ _) (ha_swap _ _ _ _)
theorem ka_k0 : ka p k0 = p := ka_zero p
theorem k0_ka : ka k0 p = p := by rw [ka_comm, ka_k0]
theorem km_k0 : km p k0 = k0 := by rw [km_comm]; exact km_nil p
theorem sc_zero : sc p 0 = k0 := by
  obtain ⟨⟨⟨a0, a1⟩, ⟨b0, b1⟩, c0, c1⟩, ⟨d0, d1⟩, ⟨e0, e1⟩, f0, f1⟩ := p
  simp [sc, sh, gk, k0, O36]
theorem sc_one : sc p 1 = p := by
  obtain ⟨⟨⟨a0, a1⟩, ⟨b0, b1⟩, c0, c1⟩, ⟨d0, d1⟩, ⟨e0, e1⟩, f0, f1⟩ := p
  simp [sc, sh, gk]
end
theorem sc_nil {z : K} {c : Int} (h : c % PP = 0) : E12 (sc z c) k0 := ⟨⟨gk_nil h, gk_nil h, gk_nil h⟩, gk_nil h, gk_nil h, gk_nil h⟩
/-- Powers, each so many times, added. -/
def bk (z : K) (n : Nat) : Nat → K
  | 0 => k0
  | m + 1 => ka (bk z n m) (sc (kp z m) (ch n m))
theorem bk_succ (z : K) (n : Nat) : ∀ m, bk z (n + 1) (m + 1) = ka (bk z n (m + 1)) (km z (bk z n m))
  | 0 => by
    show ka (bk z (n + 1) 0) (sc (kp z 0) (ch (n + 1) 0)) = ka (ka (bk z n 0) (sc (kp z 0) (ch n 0))) (km z (bk z n 0))
    rw [show bk z (n + 1) 0 = k0 from rfl, show bk z n 0 = k0 from rfl, ch_zero, ch_zero, km_k0, ka_k0]
  | m + 1 => by
    rw [bk, bk_succ z n m, show bk z n (m + 1 + 1) = ka (bk z n (m + 1)) (sc (kp z (m + 1)) (ch n (m + 1))) from rfl, show ch (n + 1) (m + 1) = ch n m + ch n (m + 1) from rfl, show kp z (m + 1) = km (kp z m) z from rfl]
    rw [show km z (bk z n (m + 1)) = km z (ka (bk z n m) (sc (kp z m) (ch n m))) from rfl]
    rw [Int.natCast_add, sc_add, km_ka, km_sc, km_comm z (kp z m), ka_comm (sc _ _) (sc _ _), ka_swap]
theorem bk_pow (z : K) : ∀ n, kp (ka z k1) n = bk z n (n + 1)
  | 0 => by
    rw [bk, bk, ch_zero, k0_ka]
    exact (sc_one _).symm
  | n + 1 => by
    have h : bk z n (n + 1 + 1) = bk z n (n + 1) := by
      rw [show bk z n (n + 1 + 1) = ka (bk z n (n + 1)) (sc (kp z (n + 1)) (ch n (n + 1))) from rfl, ch_big (by omega)]
      rw [show (((0 : Nat) : Int)) = 0 from rfl, sc_zero, ka_k0]
    rw [bk_succ, h, kp, bk_pow z n, km_ka, km_one, ka_comm, km_comm z]
theorem bk_mod (z : K) : ∀ m, m + 1 ≤ PP.toNat → E12 (bk z PP.toNat (m + 1)) k1
  | 0, _ => by
    have : bk z PP.toNat (0 + 1) = k1 := by
      rw [bk, bk, ch_zero, k0_ka]
      exact sc_one _
    rw [this]
    exact E12.rfl
  | m + 1, h => by
    have h1 := bk_mod z m (by omega)
    have h2 := ka_congr h1 (sc_nil (z := kp z (m + 1)) (ch_mod (k := m + 1) (by omega) (by omega)))
    rw [ka_k0] at h2
    exact h2
theorem dream (z : K) : E12 (kp (ka z k1) PP.toNat) (ka (kp z PP.toNat) k1) := by
  rw [bk_pow]
  obtain ⟨n, hn⟩ : ∃ n, PP.toNat = n + 1 := ⟨PP.toNat - 1, by have := PP_nat; have := PP_pos; omega⟩
  have h1 := bk_mod z n (by omega)
  have h2 : bk z PP.toNat (PP.toNat + 1) = ka (bk z PP.toNat PP.toNat) (sc (kp z PP.toNat) (ch PP.toNat PP.toNat)) := rfl
  rw [h2, ch_self]
  rw [← hn] at h1
  have h3 := ka_congr h1 (E12.rfl (p := sc (kp z PP.toNat) ((1 : Nat) : Int)))
  rw [show (((1 : Nat) : Int)) = 1 from rfl, sc_one, ka_comm k1] at h3
  rw [show (((1 : Nat) : Int)) = 1 from rfl, sc_one]
  exact h3
/-- To the power of p. -/
def ph (z : K) : K := kp z PP.toNat
theorem ph_congr {p q : K} (h : E12 p q) : E12 (ph p) (ph q) := kp_congr h _
theorem ph_mul (p q : K) : ph (km p q) = km (ph p) (ph q) := kp_km p q _
theorem kp_k1 : ∀ n, kp k1 n = k1
  | 0 => rfl
  | n + 1 => by rw [kp, kp_k1 n, km_one]
theorem ph_zero {p : K} (h : Z12 p) : Z12 (ph p) := by
  obtain ⟨n, hn⟩ : ∃ n, PP.toNat = n + 1 := ⟨PP.toNat - 1, by have := PP_nat; have := PP_pos; omega⟩
  rw [ph, hn, kp, km_comm]
  exact km_zl h
theorem ph_add (p q : K) : E12 (ph (ka p q)) (ka (ph p) (ph q)) := by
  by_cases hq : Z12 q
  · have h1 := (Z12_iff _).1 hq
    have h2 := (Z12_iff _).1 (ph_zero hq)
    have h3 := ph_congr (ka_congr (E12.rfl (p := p)) h1)
    have h4 := ka_congr (E12.rfl (p := ph p)) h2
    rw [ka_zero] at h3 h4
    exact h3.trans h4.symm
  · have hi' := km_ki hq
    have e1 : E12 (ka p q) (km q (ka (km p (ki q)) k1)) := by
      rw [km_ka, km_one, ← km_assoc, km_comm q p, km_assoc]
      have := km_congr (E12.rfl (p := p)) hi'
      rw [km_one] at this
      exact ka_congr this.symm E12.rfl
    refine (ph_congr e1).trans ?_
    rw [ph_mul]
    refine (km_congr E12.rfl (dream _)).trans ?_
    rw [km_ka, km_one]
    refine ka_congr ?_ E12.rfl
    show E12 (km (ph q) (ph (km p (ki q)))) (ph p)
    rw [ph_mul, ← km_assoc, km_comm (ph q), km_assoc, ← ph_mul]
    have h5 := km_congr (E12.rfl (p := ph p)) (ph_congr hi')
    rw [show ph k1 = k1 from kp_k1 _, km_one] at h5
    exact h5
/-- A number with u among those with w. -/
def e2 (g : G) : K := ((g, (0, 0), (0, 0)), O36)
theorem e2_mul (g h : G) : km (e2 g) (e2 h) = e2 (gm g h) := by
  obtain ⟨g0, g1⟩ := g
  obtain ⟨h0, h1⟩ := h
  refine Prod.ext ?_ ?_
  · show Fp6.ha (hm _ _) (hv (hm O36 O36)) = _
    rw [hm_nil, show hv O36 = O36 from rfl, ha_nil]
    apply hext <;> apply Prod.ext <;> simp [e2, hm, ga, gm, gx]
  · show Fp6.ha (hm _ O36) (hm O36 _) = O36
    rw [hm_nil, hm_nil', ha_nil]
theorem e2_pow (g : G) : ∀ n, kp (e2 g) n = e2 (gp g n)
  | 0 => rfl
  | n + 1 => by rw [kp, e2_pow g n, e2_mul]; rfl
theorem e2_congr {g h : G} (he : E2 g h) : E12 (e2 g) (e2 h) := ⟨⟨he, E2.rfl, E2.rfl⟩, E6.rfl⟩
theorem ph_e2 (g : G) : E12 (ph (e2 g)) (e2 (gc g)) := by
  rw [ph, e2_pow]
  exact e2_congr (frob g)
def ww : K := (O36, ((1, 0), (0, 0), (0, 0)))
theorem ww_six : kp ww 6 = e2 (1, 1) := by decide
def tt : Nat := (PP.toNat - 1) / 6
theorem PP_six : PP.toNat = 6 * tt + 1 := by decide +kernel
/-- What w is multiplied by. -/
def gam : G := gp (1, 1) tt
theorem ph_ww : ph ww = km (e2 gam) ww := by
  rw [ph, PP_six, kp, kp_mul, ww_six, e2_pow]
  rfl
theorem ph_pow (z : K) : ∀ n, ph (kp z n) = kp (ph z) n
  | 0 => kp_k1 _
  | n + 1 => by rw [kp, ph_mul, ph_pow z n, kp]
theorem ph_wn (n : Nat) : ph (kp ww n) = km (e2 (gp gam n)) (kp ww n) := by rw [ph_pow, ph_ww, kp_km, e2_pow]
/-- A number by w's powers. -/
theorem split (a : K) : a = ka (ka (ka (e2 a.1.1) (km (e2 a.1.2.1) (kp ww 2))) (ka (km (e2 a.1.2.2) (kp ww 4)) (km (e2 a.2.1) (kp ww 1)))) (ka (km (e2 a.2.2.1) (kp ww 3)) (km (e2 a.2.2.2) (kp ww 5))) := by
  have h1 : kp ww 1 = ww := kp_one _
  have h2 : kp ww 2 = (((0, 0), (1, 0), (0, 0)), O36) := by decide
  have h3 : kp ww 3 = (O36, ((0, 0), (1, 0), (0, 0))) := by decide
  have h4 : kp ww 4 = (((0, 0), (0, 0), (1, 0)), O36) := by decide
  have h5 : kp ww 5 = (O36, ((0, 0), (0, 0), (1, 0))) := by decide
  rw [h1, h2, h3, h4, h5]
  obtain ⟨⟨⟨a0, a1⟩, ⟨b0, b1⟩, c0, c1⟩, ⟨d0, d1⟩, ⟨e0, e1⟩, f0, f1⟩ := a
  simp [ka, km, e2, ww, Fp6.ha, hm, hv, ga, gm, gx, O36]
/-- What the power of p is. -/
def fr (a : K) : K := ((gc a.1.1, gm (gc a.1.2.1) (gp gam 2), gm (gc a.1.2.2) (gp gam 4)), (gm (gc a.2.1) (gp gam 1), gm (gc a.2.2.1) (gp gam 3), gm (gc a.2.2.2) (gp gam 5)))
theorem ph_term (g : G) (n : Nat) : E12 (ph (km (e2 g) (kp ww n))) (km (e2 (gm (gc g) (gp gam n))) (kp ww n)) := by
  rw [ph_mul, ph_wn, ← km_assoc, ← e2_mul]
  exact km_congr (km_congr (ph_e2 g) E12.rfl) E12.rfl
theorem ph_fr (a : K) : E12 (ph a) (fr a) := by
  have e : fr a = ka (ka (ka (e2 (fr a).1.1) (km (e2 (fr a).1.2.1) (kp ww 2))) (ka (km (e2 (fr a).1.2.2) (kp ww 4)) (km (e2 (fr a).2.1) (kp ww 1)))) (ka (km (e2 (fr a).2.2.1) (kp ww 3)) (km (e2 (fr a).2.2.2) (kp ww 5))) := split (fr a)
  rw [e]
  have h' : E12 (ph a) (ph (ka (ka (ka (e2 a.1.1) (km (e2 a.1.2.1) (kp ww 2))) (ka (km (e2 a.1.2.2) (kp ww 4)) (km (e2 a.2.1) (kp ww 1)))) (ka (km (e2 a.2.2.1) (kp ww 3)) (km (e2 a.2.2.2) (kp ww 5))))) := by
    rw [← split a]
    exact E12.rfl
  refine h'.trans ?_
  refine (ph_add _ _).trans (ka_congr ((ph_add _ _).trans (ka_congr ((ph_add _ _).trans (ka_congr (ph_e2 _) (ph_term _ 2))) ((ph_add _ _).trans (ka_congr (ph_term _ 4) (ph_term _ 1))))) ((ph_add _ _).trans (ka_congr (ph_term _ 3) (ph_term _ 5))))
/-! Again and again. -/
def pn : Nat → K → K
  | 0, a => a
  | n + 1, a => ph (pn n a)
theorem pn_congr {p q : K} (h : E12 p q) : ∀ n, E12 (pn n p) (pn n q)
  | 0 => h
  | n + 1 => ph_congr (pn_congr h n)
theorem pn_add (p q : K) : ∀ n, E12 (pn n (ka p q)) (ka (pn n p) (pn n q))
  | 0 => E12.rfl
  | n + 1 => (ph_congr (pn_add p q n)).trans (ph_add _ _)
theorem pn_mul (p q : K) : ∀ n, pn n (km p q) = km (pn n p) (pn n q)
  | 0 => rfl
  | n + 1 => by rw [pn, pn_mul p q n, ph_mul]; rfl
theorem pn_k1 : ∀ n, pn n k1 = k1
  | 0 => rfl
  | n + 1 => by rw [pn, pn_k1 n]; exact kp_k1 _
theorem pn_pow (p : K) (n : Nat) : ∀ j, pn n (kp p j) = kp (pn n p) j
  | 0 => pn_k1 n
  | j + 1 => by rw [kp, pn_mul, pn_pow p n j, kp]
theorem pn_plus (m : Nat) (a : K) : ∀ n, pn (m + n) a = pn n (pn m a)
  | 0 => rfl
  | n + 1 => by rw [← Nat.add_assoc, pn, pn_plus m a n]; rfl
theorem gc_gc (g : G) : gc (gc g) = g := by apply Prod.ext <;> simp [gc]
theorem pn_two (g : G) : E12 (pn 2 (e2 g)) (e2 g) := by
  have h := (ph_congr (ph_e2 g)).trans (ph_e2 (gc g))
  rw [gc_gc] at h
  exact h
theorem pn_even (g : G) : ∀ k, E12 (pn (2 * k) (e2 g)) (e2 g)
  | 0 => E12.rfl
  | k + 1 => by
    rw [show 2 * (k + 1) = 2 * k + 2 by omega, pn_plus]
    exact (pn_congr (pn_even g k) 2).trans (pn_two g)
/-- A power of 2: what w is multiplied by, twice on. -/
def nn : Int := 2 ^ tt
theorem gam_norm : gnorm gam = nn := by rw [gam, Fp2r.gnorm_gp]; rfl
theorem ww_two : E12 (pn 2 ww) (km (e2 (nn, 0)) ww) := by
  show E12 (ph (ph ww)) _
  rw [ph_ww, ph_mul, ph_ww, ← km_assoc]
  refine km_congr ?_ E12.rfl
  have h := km_congr (ph_e2 gam) (E12.rfl (p := e2 gam))
  rw [e2_mul, gm_comm, gm_gc, gam_norm] at h
  exact h
theorem e2_km (g h : G) (z : K) : km (e2 g) (km (e2 h) z) = km (e2 (gm g h)) z := by rw [← km_assoc, e2_mul]
theorem re_pow (x : Int) : ∀ k, gp (x, 0) k = (x ^ k, 0)
  | 0 => by rw [Int.pow_zero]; rfl
  | k + 1 => by
    rw [gp, re_pow x k, Int.pow_succ]
    apply Prod.ext <;> simp [gm]
theorem ww_even : ∀ k, E12 (pn (2 * k) ww) (km (e2 (nn ^ k, 0)) ww)
  | 0 => by
    show E12 ww (km (e2 (nn ^ 0, 0)) ww)
    rw [Int.pow_zero]
    have : km (e2 (1, 0)) ww = ww := by rw [km_comm]; exact km_one ww
    rw [this]
    exact E12.rfl
  | k + 1 => by
    rw [show 2 * (k + 1) = 2 * k + 2 by omega, pn_plus]
    refine (pn_congr (ww_even k) 2).trans ?_
    rw [pn_mul]
    refine (km_congr (pn_two _) ww_two).trans ?_
    have e : gm (nn ^ k, 0) (nn, 0) = (nn ^ (k + 1), 0) := by
      rw [Int.pow_succ]
      apply Prod.ext <;> simp [gm]
    rw [e2_km, e]
    exact E12.rfl
theorem tt_half : Fpr.HH.toNat = tt * 3 := by decide +kernel
theorem nn_three : nn ^ 3 % PP = -1 % PP := by
  rw [nn, ← Int.pow_mul, ← tt_half, Fp2r.two_half]
  decide +kernel
theorem ww_6 : E12 (pn 6 ww) (km (e2 (-1, 0)) ww) := (ww_even 3).trans (km_congr (e2_congr ⟨nn_three, rfl⟩) E12.rfl)
theorem pn_term6 (g : G) (j : Nat) : E12 (pn 6 (km (e2 g) (kp ww j))) (km (e2 (gm g (gp (-1, 0) j))) (kp ww j)) := by
  rw [pn_mul, pn_pow]
  refine (km_congr (pn_even g 3) (kp_congr ww_6 j)).trans ?_
  rw [kp_km, e2_pow, e2_km]
  exact E12.rfl
/-- Six times on it is the conjugate. -/
theorem pn_6 (a : K) : E12 (pn 6 a) (Fp12.kc a) := by
  have h' : E12 (pn 6 a) (pn 6 (ka (ka (ka (e2 a.1.1) (km (e2 a.1.2.1) (kp ww 2))) (ka (km (e2 a.1.2.2) (kp ww 4)) (km (e2 a.2.1) (kp ww 1)))) (ka (km (e2 a.2.2.1) (kp ww 3)) (km (e2 a.2.2.2) (kp ww 5))))) := by
    rw [← split a]
    exact E12.rfl
  refine h'.trans ?_
  refine ((pn_add _ _ 6).trans (ka_congr ((pn_add _ _ 6).trans (ka_congr ((pn_add _ _ 6).trans (ka_congr (pn_even _ 3) (pn_term6 _ 2))) ((pn_add _ _ 6).trans (ka_congr (pn_term6 _ 4) (pn_term6 _ 1))))) ((pn_add _ _ 6).trans (ka_congr (pn_term6 _ 3) (pn_term6 _ 5))))).trans ?_
  have e1 : ∀ g : G, gm g (gp (-1, 0) 1) = gn g := fun g => by apply Prod.ext <;> simp [gp, gm, gn]
  have e2' : ∀ g : G, gm g (gp (-1, 0) 2) = g := fun g => by apply Prod.ext <;> simp [gp, gm]
  have e3 : ∀ g : G, gm g (gp (-1, 0) 3) = gn g := fun g => by apply Prod.ext <;> simp [gp, gm, gn]
  have e4 : ∀ g : G, gm g (gp (-1, 0) 4) = g := fun g => by apply Prod.ext <;> simp [gp, gm]
  have e5 : ∀ g : G, gm g (gp (-1, 0) 5) = gn g := fun g => by apply Prod.ext <;> simp [gp, gm, gn]
  rw [e1, e2', e3, e4, e5]
  have hs := split (Fp12.kc a)
  rw [show Fp12.kc a = (a.1, Fp6.hn a.2) from rfl] at hs ⊢
  rw [hs]
  exact E12.rfl
theorem pn_12 (a : K) : E12 (pn 12 a) a := by
  rw [show 12 = 6 + 6 from rfl, pn_plus]
  have h := (pn_6 (pn 6 a)).trans (Fp12.kc_congr (pn_6 a))
  rw [Fp12.kc_kc] at h
  exact h
end Go.Proofs.YtpnpiiocpjbffaaDoor.Frob

/-
  Own text. What a power of p multiplies w's powers by, as words; a number's step by its parts. Speaks of no program.
-/
namespace Go.Proofs.YtpnpiiocpjbffaaDoor.Frob
set_option linter.unusedVariables false
set_option maxRecDepth 100000
open Go Go.RowKit Go.Proofs.YtpnpiiocpjbffaaDoor.Reg Go.Proofs.YtpnpiiocpjbffaaDoor.Base Go.Proofs.YtpnpiiocpjbffaaDoor.Limb Go.Proofs.YtpnpiiocpjbffaaDoor.Fp Go.Proofs.YtpnpiiocpjbffaaDoor.Fp2 Go.Proofs.YtpnpiiocpjbffaaDoor.Fp6 Go.Proofs.YtpnpiiocpjbffaaDoor.Fp12

def rdg (a : G) : G := (a.1 % PP, a.2 % PP)
theorem rdg_eq (a : G) : E2 (rdg a) a := ⟨Int.emod_emod _ _, Int.emod_emod _ _⟩
/-- Powers of numbers with u, by squaring. -/
def gpw : Nat → G → Nat → G
  | 0, _, _ => (1, 0)
  | f + 1, b, n => if n = 0 then (1, 0) else if n % 2 = 1 then rdg (gm (rdg (gm (gpw f b (n / 2)) (gpw f b (n / 2)))) b) else rdg (gm (gpw f b (n / 2)) (gpw f b (n / 2)))
theorem gpw_ok (b : G) : ∀ f n, n < 2 ^ f → E2 (gpw f b n) (gp b n)
  | 0, n, h => by
    obtain rfl : n = 0 := by omega
    exact E2.rfl
  | f + 1, n, h => by
    unfold gpw
    by_cases h0 : n = 0
    · rw [if_pos h0]
      subst h0
      exact E2.rfl
    · rw [if_neg h0]
      have ih := gpw_ok b f (n / 2) (by rw [Nat.pow_succ] at h; omega)
      have h2 : E2 (rdg (gm (gpw f b (n / 2)) (gpw f b (n / 2)))) (gp b (n / 2 + n / 2)) := by
        rw [gp_add]
        exact (rdg_eq _).trans (gm_congr ih ih)
      by_cases hd : n % 2 = 1
      · rw [if_pos hd]
        have e1 : gp b n = gm (gp b (n / 2 + n / 2)) b := by
          conv => lhs; rw [show n = n / 2 + n / 2 + 1 by omega]
          rfl
        rw [e1]
        exact (rdg_eq _).trans (gm_congr h2 E2.rfl)
      · rw [if_neg hd]
        have e1 : gp b n = gp b (n / 2 + n / 2) := by
          conv => lhs; rw [show n = n / 2 + n / 2 by omega]
        rw [e1]
        exact h2
def gw1 : List Int := [10162220747404304312, 17761815663483519293, 8873291758750579140, 1141103941765652303, 13993175198059990303, 1802798568193066599, 3240210268673559283, 2895069921743240898, 17009126888523054175, 6098234018649060207, 9865672654120263608, 71000049454473266]
def gw2 : List Int := [0, 0, 0, 0, 0, 0, 10087218740379822764, 4653388206581612541, 9907120269317136283, 12253596935368579796, 17006226088849104517, 1873798617647539865]
def gw3 : List Int := [14416168624775744521, 17178867732698629620, 8644499054833844677, 5204293836692734814, 7508032112903159806, 481619096434065419, 14416168624775744521, 17178867732698629620, 8644499054833844677, 5204293836692734814, 7508032112903159806, 481619096434065419]
def gw4 : List Int := [10087218740379822765, 4653388206581612541, 9907120269317136283, 12253596935368579796, 17006226088849104517, 1873798617647539865, 0, 0, 0, 0, 0, 0]
def gw5 : List Int := [11175958356102185238, 14283797810955388722, 10082116240020342118, 17552803891753226222, 16089103532492447813, 410619046979592152, 2226472659975678357, 6373087774271371469, 15800302407253291197, 8133278142371037904, 7769744319687806097, 1463179570667947713]
theorem gw1_ok : E2 (v2 gw1) gam := E2.trans ⟨by decide +kernel, by decide +kernel⟩ (gpw_ok (1, 1) 380 tt (by decide +kernel))
theorem gw1_pow (k : Nat) : E2 (gp (v2 gw1) k) (gp gam k) := gp_congr gw1_ok k
theorem gw2_ok : E2 (v2 gw2) (gp gam 2) := E2.trans ⟨by decide +kernel, by decide +kernel⟩ (gw1_pow 2)
theorem gw3_ok : E2 (v2 gw3) (gp gam 3) := E2.trans ⟨by decide +kernel, by decide +kernel⟩ (gw1_pow 3)
theorem gw4_ok : E2 (v2 gw4) (gp gam 4) := E2.trans ⟨by decide +kernel, by decide +kernel⟩ (gw1_pow 4)
theorem gw5_ok : E2 (v2 gw5) (gp gam 5) := E2.trans ⟨by decide +kernel, by decide +kernel⟩ (gw1_pow 5)
theorem gw1_ok' : E2 (v2 gw1) (gp gam 1) := E2.trans ⟨by decide +kernel, by decide +kernel⟩ (gw1_pow 1)
theorem step_g (a : K) {c1 c2 c3 c4 c5 d1 d2 d3 d4 d5 : G} (h1 : E2 c1 d1) (h2 : E2 c2 d2) (h3 : E2 c3 d3) (h4 : E2 c4 d4) (h5 : E2 c5 d5) : E12 ((gc a.1.1, gm (gc a.1.2.1) c2, gm (gc a.1.2.2) c4), (gm (gc a.2.1) c1, gm (gc a.2.2.1) c3, gm (gc a.2.2.2) c5)) ((gc a.1.1, gm (gc a.1.2.1) d2, gm (gc a.1.2.2) d4), (gm (gc a.2.1) d1, gm (gc a.2.2.1) d3, gm (gc a.2.2.2) d5)) :=
  ⟨⟨E2.rfl, gm_congr E2.rfl h2, gm_congr E2.rfl h4⟩, gm_congr E2.rfl h1, gm_congr E2.rfl h3, gm_congr E2.rfl h5⟩
/-- A step, by the six parts. -/
theorem step_v (a : K) : E12 ((gc a.1.1, gm (gc a.1.2.1) (v2 gw2), gm (gc a.1.2.2) (v2 gw4)), (gm (gc a.2.1) (v2 gw1), gm (gc a.2.2.1) (v2 gw3), gm (gc a.2.2.2) (v2 gw5))) (ph a) := by
  have h := ph_fr a
  rw [fr] at h
  exact (step_g a gw1_ok' gw2_ok gw3_ok gw4_ok gw5_ok).trans h.symm
/-- Steps hang on n modulo 12. -/
theorem pn_12m (a : K) (m : Nat) : ∀ k, E12 (pn (m + 12 * k) a) (pn m a)
  | 0 => E12.rfl
  | k + 1 => by
    rw [show m + 12 * (k + 1) = 12 + (m + 12 * k) by omega, pn_plus]
    exact (pn_congr (pn_12 a) _).trans (pn_12m a m k)
theorem pn_mod (a : K) (n : Nat) : E12 (pn n a) (pn (n % 12) a) := by
  have h := pn_12m a (n % 12) (n / 12)
  rwa [show n % 12 + 12 * (n / 12) = n by omega] at h
/-- A number that is its own power of p. -/
theorem pn_fix {a : K} (h : E12 (ph a) a) : ∀ n, E12 (pn n a) a
  | 0 => E12.rfl
  | n + 1 => (ph_congr (pn_fix h n)).trans h
theorem ph_base (x : Int) : E12 (ph (e2 (x, 0))) (e2 (x, 0)) := (ph_e2 _).trans (e2_congr ⟨rfl, by show (-0 : Int) % PP = 0 % PP; rfl⟩)
/-- The steps' period: what is added is taken off. -/
theorem pn_back (a : K) {m k : Nat} (h : (m + k) % 12 = 0) : E12 (pn k (pn m a)) a := by
  rw [← pn_plus]
  have h1 := pn_mod a (m + k)
  rw [h] at h1
  exact h1
end Go.Proofs.YtpnpiiocpjbffaaDoor.Frob

/-
  Own text. Powers of p of numbers without w, and without v. Speaks of no program.
-/
namespace Go.Proofs.YtpnpiiocpjbffaaDoor.Frob
set_option linter.unusedVariables false
open Go Go.RowKit Go.Proofs.YtpnpiiocpjbffaaDoor.Reg Go.Proofs.YtpnpiiocpjbffaaDoor.Base Go.Proofs.YtpnpiiocpjbffaaDoor.Limb Go.Proofs.YtpnpiiocpjbffaaDoor.Fp Go.Proofs.YtpnpiiocpjbffaaDoor.Fp2 Go.Proofs.YtpnpiiocpjbffaaDoor.Fp6 Go.Proofs.YtpnpiiocpjbffaaDoor.Fp12

/-- A step of a number without w. -/
def st6 (h : H) : H := (gc h.1, gm (gc h.2.1) (gp gam 2), gm (gc h.2.2) (gp gam 4))
def fn6 : Nat → H → H
  | 0, h => h
  | n + 1, h => st6 (fn6 n h)
def fn2 : Nat → G → G
  | 0, g => g
  | n + 1, g => gc (fn2 n g)
theorem gm_gc0 (x : G) : gm (gc (0, 0)) x = (0, 0) := by apply Prod.ext <;> simp [gm, gc]
theorem fr_h (h : H) : fr (h, O36) = (st6 h, O36) := by
  have e : fr (h, O36) = (st6 h, (gm (gc (0, 0)) (gp gam 1), gm (gc (0, 0)) (gp gam 3), gm (gc (0, 0)) (gp gam 5))) := by rw [fr, st6]; rfl
  rw [e, gm_gc0, gm_gc0, gm_gc0]
  rfl
theorem ph_h (h : H) : E12 (ph (h, O36)) (st6 h, O36) := by
  have e := ph_fr (h, O36)
  rwa [fr_h] at e
theorem pn_h (h : H) : ∀ n, E12 (pn n (h, O36)) (fn6 n h, O36)
  | 0 => E12.rfl
  | n + 1 => (ph_congr (pn_h h n)).trans (ph_h _)
theorem fn6_6 (h : H) (m : Nat) : E6 (fn6 (m + 6) h) (fn6 m h) := by
  have e : E12 (pn (m + 6) (h, O36)) (Fp12.kc (pn m (h, O36))) := by
    rw [pn_plus]
    exact pn_6 _
  exact (((pn_h h (m + 6)).symm.trans e).trans (Fp12.kc_congr (pn_h h m))).1
theorem fn6_more (h : H) (m : Nat) : ∀ k, E6 (fn6 (m + 6 * k) h) (fn6 m h)
  | 0 => E6.rfl
  | k + 1 => by
    rw [show m + 6 * (k + 1) = m + 6 * k + 6 by omega]
    exact (fn6_6 h _).trans (fn6_more h m k)
theorem fn6_mod (h : H) (n : Nat) : E6 (fn6 n h) (fn6 (n % 6) h) := by
  have e := fn6_more h (n % 6) (n / 6)
  rwa [show n % 6 + 6 * (n / 6) = n by omega] at e
theorem st6_g (g : G) : st6 (g, (0, 0), (0, 0)) = (gc g, (0, 0), (0, 0)) := by
  show (gc g, gm (gc (0, 0)) (gp gam 2), gm (gc (0, 0)) (gp gam 4)) = _
  rw [gm_gc0, gm_gc0]
theorem fn6_g (g : G) : ∀ n, fn6 n (g, (0, 0), (0, 0)) = (fn2 n g, (0, 0), (0, 0))
  | 0 => rfl
  | n + 1 => by rw [fn6, fn6_g g n, st6_g, fn2]
theorem fn2_more (g : G) (m : Nat) : ∀ k, fn2 (m + 2 * k) g = fn2 m g
  | 0 => rfl
  | k + 1 => by
    rw [show m + 2 * (k + 1) = m + 2 * k + 1 + 1 by omega, fn2, fn2, gc_gc]
    exact fn2_more g m k
theorem fn2_mod (g : G) (n : Nat) : fn2 n g = fn2 (n % 2) g := by
  have e := fn2_more g (n % 2) (n / 2)
  rwa [show n % 2 + 2 * (n / 2) = n by omega] at e
/-- A product's. -/
theorem fn6_hm (x y : H) (n : Nat) : E6 (fn6 n (hm x y)) (hm (fn6 n x) (fn6 n y)) := by
  have e1 : ∀ a b : H, Fp12.km (a, O36) (b, O36) = (hm a b, O36) := fun a b => by
    refine Prod.ext ?_ ?_
    · show Fp6.ha (hm a b) (hv (hm O36 O36)) = hm a b
      rw [hm_nil, show hv O36 = O36 from rfl, ha_nil]
    · show Fp6.ha (hm a O36) (hm O36 b) = O36
      rw [hm_nil, hm_nil', ha_nil]
  have h1 := pn_h (hm x y) n
  rw [← e1, pn_mul] at h1
  have h2 := h1.symm.trans (km_congr (pn_h x n) (pn_h y n))
  rw [e1] at h2
  exact h2.1
end Go.Proofs.YtpnpiiocpjbffaaDoor.Frob

/-
  Own text. Steps by two tables: so many steps, each part on its own way. Speaks of no function of the program.
-/
namespace Go.Proofs.YtpnpiiocpjbffaaDoor.Frob
set_option linter.unusedVariables false
set_option maxRecDepth 100000
open Go Go.RowKit Go.Proofs.YtpnpiiocpjbffaaDoor.Reg Go.Proofs.YtpnpiiocpjbffaaDoor.Base Go.Proofs.YtpnpiiocpjbffaaDoor.Limb Go.Proofs.YtpnpiiocpjbffaaDoor.Fp Go.Proofs.YtpnpiiocpjbffaaDoor.Fp2 Go.Proofs.YtpnpiiocpjbffaaDoor.Fp6 Go.Proofs.YtpnpiiocpjbffaaDoor.Fp12
/-- What is in the tables. -/
def sN (m : Nat) : Int := num (seg (6 * m) 6 bsL)
def cG (i : Nat) : G := v2 (seg (12 * i) 12 bfL)
theorem cG_ok : ∀ i, i < 6 → E2 (cG i) (gp gam i)
  | 0, _ => (show cG 0 = (1, 0) by decide +kernel) ▸ E2.rfl
  | 1, _ => (show v2 gw1 = cG 1 by decide +kernel) ▸ gw1_ok'
  | 2, _ => (show v2 gw2 = cG 2 by decide +kernel) ▸ gw2_ok
  | 3, _ => (show v2 gw3 = cG 3 by decide +kernel) ▸ gw3_ok
  | 4, _ => (show v2 gw4 = cG 4 by decide +kernel) ▸ gw4_ok
  | 5, _ => (show v2 gw5 = cG 5 by decide +kernel) ▸ gw5_ok
  | n + 6, h => absurd h (by omega)
theorem s1_ok : sN 1 % PP = nn % PP := by
  rw [← gam_norm, ← gnorm_congr gw1_ok]
  decide +kernel
theorem pow_m {x y : Int} (h : x % PP = y % PP) : ∀ n : Nat, x ^ n % PP = y ^ n % PP
  | 0 => by rw [Int.pow_zero, Int.pow_zero]
  | n + 1 => by rw [Int.pow_succ, Int.pow_succ, Int.mul_emod, pow_m h n, h, ← Int.mul_emod]
theorem tab_s : ∀ m, m < 6 → ∀ i, i < 6 → (sN m * sN 1 ^ i) % PP = sN ((m + i) % 6) % PP := by decide +kernel
/-- Each part on its own. -/
def mp (f : Nat → G → G) (a : K) : K := ((f 0 a.1.1, f 2 a.1.2.1, f 4 a.1.2.2), (f 1 a.2.1, f 3 a.2.2.1, f 5 a.2.2.2))
theorem mp_eq {f h : Nat → G → G} (e : ∀ i, i < 6 → ∀ g, E2 (f i g) (h i g)) (a : K) : E12 (mp f a) (mp h a) :=
  ⟨⟨e 0 (by decide) _, e 2 (by decide) _, e 4 (by decide) _⟩, e 1 (by decide) _, e 3 (by decide) _, e 5 (by decide) _⟩
theorem ph_mp (a : K) : E12 (ph a) (mp (fun i g => gm (gc g) (gp gam i)) a) := by
  have h := ph_fr a
  rw [fr] at h
  refine h.trans ⟨⟨?_, E2.rfl, E2.rfl⟩, E6.rfl⟩
  show E2 (gc a.1.1) (gm (gc a.1.1) (1, 0))
  rw [gm_one]
  exact E2.rfl
theorem id_two (g x : G) : gm (gc (gm (gc g) x)) x = gk g (gnorm x) := by
  apply Prod.ext
  · simp only [gm, gc, gk, gnorm]; grind
  · simp only [gm, gc, gk, gnorm]; grind
theorem id_one (g c : G) (s : Int) : gm (gc (gk g s)) c = gk (gm (gc g) c) s := by
  apply Prod.ext
  · simp only [gm, gc, gk]; grind
  · simp only [gm, gc, gk]; grind
theorem gk_gk (g : G) (s t : Int) : gk (gk g s) t = gk g (s * t) := Prod.ext (Int.mul_assoc _ _ _) (Int.mul_assoc _ _ _)
theorem two_mp (a : K) : E12 (pn 2 a) (mp (fun i g => gk g (nn ^ i)) a) := by
  show E12 (ph (ph a)) _
  refine ((ph_congr (ph_mp a)).trans (ph_mp _)).trans ?_
  refine mp_eq (f := fun i g => gm (gc (gm (gc g) (gp gam i))) (gp gam i)) (fun i _ g => ?_) a
  show E2 (gm (gc (gm (gc g) (gp gam i))) (gp gam i)) (gk g (nn ^ i))
  rw [id_two, Fp2r.gnorm_gp, gam_norm]
  exact E2.rfl
theorem even_mp (a : K) : ∀ j, E12 (pn (2 * j) a) (mp (fun i g => gk g (sN (j * i % 6))) a)
  | 0 => by
    refine (?_ : E12 a (mp (fun i g => gk g 1) a)).trans (mp_eq (fun i _ g => ?_) a)
    · have e : ∀ g : G, gk g 1 = g := fun g => Prod.ext (Int.mul_one _) (Int.mul_one _)
      simp only [mp, e]
      exact E12.rfl
    · rw [Nat.zero_mul, Nat.zero_mod, show sN 0 = 1 by decide +kernel]
      exact E2.rfl
  | j + 1 => by
    rw [show 2 * (j + 1) = 2 * j + 2 by omega, pn_plus]
    refine ((pn_congr (even_mp a j) 2).trans (two_mp _)).trans ?_
    refine mp_eq (f := fun i g => gk (gk g (sN (j * i % 6))) (nn ^ i)) (fun i hi g => ?_) a
    show E2 (gk (gk g (sN (j * i % 6))) (nn ^ i)) (gk g (sN ((j + 1) * i % 6)))
    rw [gk_gk]
    refine gk_congr E2.rfl ?_
    have h := tab_s (j * i % 6) (by omega) i hi
    rw [show ((j * i % 6) + i) % 6 = (j + 1) * i % 6 by rw [Nat.succ_mul]; omega] at h
    rw [← h, Int.mul_emod, ← pow_m s1_ok i, ← Int.mul_emod]
theorem odd_mp (a : K) (j : Nat) : E12 (pn (2 * j + 1) a) (mp (fun i g => gk (gm (gc g) (cG i)) (sN (j * i % 6))) a) := by
  show E12 (ph (pn (2 * j) a)) _
  refine ((ph_congr (even_mp a j)).trans (ph_mp _)).trans ?_
  refine mp_eq (f := fun i g => gm (gc (gk g (sN (j * i % 6)))) (gp gam i)) (fun i hi g => ?_) a
  show E2 (gm (gc (gk g (sN (j * i % 6)))) (gp gam i)) (gk (gm (gc g) (cG i)) (sN (j * i % 6)))
  rw [id_one]
  exact gk_congr (gm_congr E2.rfl (cG_ok i hi).symm) rfl
theorem seg_seg {o n i m : Nat} (h : i + m ≤ n) (a : List Int) : seg i m (seg o n a) = seg (o + i) m a := by
  rw [seg, seg, seg, List.drop_take, List.drop_drop, List.take_take, Nat.min_eq_left (by omega)]
/-- What the landed code reckons of a part: even and odd. -/
def pe (j i off : Nat) (a : List Int) : List Int := F2 (gk (v2 (F2 (v2 (seg off 12 a)))) (num (seg (6 * (j * i % 6)) 6 bsL)))
def po (j i off : Nat) (a : List Int) : List Int := F2 (gk (v2 (F2 (gm (v2 (F2 (gc (v2 (seg off 12 a))))) (v2 (seg (12 * i) 12 bfL))))) (num (seg (6 * (j * i % 6)) 6 bsL)))
def all (f : Nat → Nat → List Int) : List Int := f 0 0 ++ f 2 12 ++ f 4 24 ++ f 1 36 ++ f 3 48 ++ f 5 60
def all6 (f : Nat → Nat → List Int) : List Int := f 0 0 ++ f 2 12 ++ f 4 24
theorem pe_eq (j i off : Nat) (a : List Int) : pe j i off a = F2 (gk (v2 (seg off 12 a)) (sN (j * i % 6))) := F2_eq (gk_congr (v2_F2 _) rfl)
theorem po_eq (j i off : Nat) (a : List Int) : po j i off a = F2 (gk (gm (gc (v2 (seg off 12 a))) (cG i)) (sN (j * i % 6))) :=
  F2_eq (gk_congr ((v2_F2 _).trans (gm_congr (v2_F2 _) E2.rfl)) rfl)
theorem F12_mp (f : Nat → G → G) (a : List Int) : F12 (mp f (v12 a)) = all fun i off => F2 (f i (v2 (seg off 12 a))) := by
  simp only [F12, F6, mp, all, v12, v6, List.append_assoc, seg_seg (show 0 + 12 ≤ 36 by decide), seg_seg (show 12 + 12 ≤ 36 by decide), seg_seg (show 24 + 12 ≤ 36 by decide)]
theorem F6_mp (f : Nat → G → G) (a : List Int) (h : H) : F6 (mp f (v6 a, h)).1 = all6 fun i off => F2 (f i (v2 (seg off 12 a))) := rfl
theorem even12 (a : List Int) (j : Nat) : all (fun i off => pe j i off a) = F12 (pn (2 * j) (v12 a)) := by
  rw [F12_eq (even_mp (v12 a) j), F12_mp]
  simp only [pe_eq]
theorem odd12 (a : List Int) (j : Nat) : all (fun i off => po j i off a) = F12 (pn (2 * j + 1) (v12 a)) := by
  rw [F12_eq (odd_mp (v12 a) j), F12_mp]
  simp only [po_eq]
theorem even6 (a : List Int) (j : Nat) : all6 (fun i off => pe j i off a) = F6 (fn6 (2 * j % 6) (v6 a)) := by
  have h := ((pn_h (v6 a) (2 * j)).symm.trans (even_mp (v6 a, O36) j)).1
  rw [← F6_eq (fn6_mod (v6 a) (2 * j)), F6_eq h, F6_mp]
  simp only [pe_eq]
theorem odd6 (a : List Int) (j : Nat) : all6 (fun i off => po j i off a) = F6 (fn6 ((2 * j + 1) % 6) (v6 a)) := by
  have h := ((pn_h (v6 a) (2 * j + 1)).symm.trans (odd_mp (v6 a, O36) j)).1
  rw [← F6_eq (fn6_mod (v6 a) (2 * j + 1)), F6_eq h, F6_mp]
  simp only [po_eq]
end Go.Proofs.YtpnpiiocpjbffaaDoor.Frob

