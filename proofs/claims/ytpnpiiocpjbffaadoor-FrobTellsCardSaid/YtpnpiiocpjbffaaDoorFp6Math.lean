/-
  Own text. Numbers with v: 1 + u is no cube, so each number but 0 has an inverse. Speaks of no program.
-/
import Derived.Test.YtpnpiiocpjbffaaDoorFp6Spec
import Derived.Test.YtpnpiiocpjbffaaDoorFp2rMath
namespace Go.Proofs.YtpnpiiocpjbffaaDoor.Fp6
set_option linter.unusedVariables false
open Go Go.RowKit Go.Proofs.YtpnpiiocpjbffaaDoor.Reg Go.Proofs.YtpnpiiocpjbffaaDoor.Base Go.Proofs.YtpnpiiocpjbffaaDoor.Limb Go.Proofs.YtpnpiiocpjbffaaDoor.Fp Go.Proofs.YtpnpiiocpjbffaaDoor.Fp2 Go.Proofs.YtpnpiiocpjbffaaDoor.Fp2r Go.Proofs.YtpnpiiocpjbffaaDoor.Num

def cube (p : G) : G := gm (gm p p) p
theorem PP_third : (PP - 1).toNat = 3 * ((PP.toNat - 1) / 3) := by decide +kernel
theorem two_power : (2 : Int) ^ ((PP.toNat - 1) / 3) % PP ≠ 1 := by
  have h1 : ((2 ^ ((PP.toNat - 1) / 3) % PP.toNat : Nat) : Int) = ((pm 384 2 ((PP.toNat - 1) / 3) PP.toNat 1 % PP.toNat : Nat) : Int) := by
    rw [pm_eq 384 2 _ PP.toNat 1 (by decide +kernel), Nat.one_mul]
  have h2 : ((2 ^ ((PP.toNat - 1) / 3) % PP.toNat : Nat) : Int) = (2 : Int) ^ ((PP.toNat - 1) / 3) % PP := by
    rw [Int.natCast_emod, Int.natCast_pow, PP_nat]
    rfl
  rw [← h2, h1]
  decide +kernel
/-- 1 + u is no cube. -/
theorem no_cube (z : G) : ¬ E2 (cube z) (1, 1) := fun h => by
  have h1 := gnorm_congr h
  rw [cube, gnorm_gm, gnorm_gm, show gnorm (1, 1) = 2 from rfl] at h1
  have hz : gnorm z % PP ≠ 0 := fun h0 => by
    rw [Int.mul_emod, h0, Int.mul_zero] at h1
    exact absurd h1 (by decide +kernel)
  have h2 := pw_fermat hz
  rw [pw, PP_third, Int.pow_mul] at h2
  have h3 : gnorm z ^ 3 % PP = 2 % PP := by
    rw [← h1, Int.pow_succ, Int.pow_succ, Int.pow_one]
  rw [pw_congr h3 _] at h2
  exact two_power h2
theorem Z2_gn {p : G} (h : Z2 (gn p)) : Z2 p := by
  have := Z2.congr (gn_zero h).symm h
  exact ⟨(neg_iff _).1 h.1, (neg_iff _).1 h.2⟩
theorem cube_zero {p : G} (h : Z2 (cube p)) : Z2 p := by
  by_cases hp : Z2 p
  · exact hp
  · rw [cube, gm_assoc] at h
    exact gm_zero (gm_zero h hp) hp
theorem ga_z {p q : G} (h : Z2 (ga p q)) (hq : Z2 q) : Z2 p := by
  have h1 := Z2_ga h
  exact Z2.congr h1.symm (Z2.congr (gn_zero hq).symm hq)
/-- A cube and 1 + u times one are 0 together just if both are 0. -/
theorem two_cubes {t s : G} (h : Z2 (ga (cube t) (gm (1, 1) (cube s)))) : Z2 s ∧ Z2 t := by
  by_cases hs : Z2 s
  · have h1 : Z2 (gm (1, 1) (cube s)) := by rw [gm_comm]; exact gm_zl (gm_zl (gm_zl hs))
    exact ⟨hs, cube_zero (ga_z h h1)⟩
  · exfalso
    refine no_cube (gn (gm t (gi s))) ?_
    have hc : ¬ Z2 (cube s) := fun h0 => hs (cube_zero h0)
    refine gm_cancel hc ?_
    have e : gm (cube (gn (gm t (gi s)))) (cube s) = gn (gm (cube t) (cube (gm s (gi s)))) := by
      generalize gi s = i
      apply Prod.ext <;> simp only [cube, gm, gn] <;> grind
    rw [e]
    have h1 := gm_gi hs
    have h2 : E2 (cube (gm s (gi s))) (1, 0) := by
      have := gm_congr (gm_congr h1 h1) h1
      rwa [gm_one, gm_one] at this
    have h3 := gn_congr (gm_congr (E2.rfl (p := cube t)) h2)
    rw [gm_one] at h3
    refine h3.trans ?_
    have h4 := gn_congr (Z2_ga h)
    rwa [gn_gn] at h4
def norm6 (p : H) : G := (hm p (hc p)).1
theorem norm6_cubes (a b c : G) : ga (cube (gs (gm a b) (gx (gm c c)))) (gm (1, 1) (cube (gs (gm b b) (gm a c)))) = gm (norm6 (a, b, c)) (ga (gm c (gs (gm a b) (gx (gm c c)))) (gm b (gs (gm b b) (gm a c)))) := by
  obtain ⟨a0, a1⟩ := a
  obtain ⟨b0, b1⟩ := b
  obtain ⟨c0, c1⟩ := c
  apply Prod.ext <;> simp only [cube, norm6, hm, hc, ga, gs, gm, gx] <;> grind
/-- 0 modulo p. -/
def Z6 (p : H) : Prop := Z2 p.1 ∧ Z2 p.2.1 ∧ Z2 p.2.2
theorem norm6_zero {p : H} (h : Z2 (norm6 p)) : Z6 p := by
  obtain ⟨a, b, c⟩ := p
  have h1 : Z2 (ga (cube (gs (gm a b) (gx (gm c c)))) (gm (1, 1) (cube (gs (gm b b) (gm a c))))) := by
    rw [norm6_cubes]
    exact gm_zl h
  obtain ⟨h2, h3⟩ := two_cubes h1
  have e2 := Z2_gs h2
  have e3 := Z2_gs h3
  have h4 : Z2 (ga (cube (gn b)) (gm (1, 1) (cube c))) := by
    have e : ga (cube (gn b)) (gm (1, 1) (cube c)) = gs (gm (gx (gm c c)) c) (gm (gm b b) b) := by
      apply Prod.ext <;> simp only [cube, ga, gs, gm, gn, gx] <;> grind
    rw [e]
    refine gs_zero ?_
    have e4 := gm_congr e3.symm (E2.rfl (p := c))
    have e5 := gm_congr e2 (E2.rfl (p := b))
    refine e4.trans ?_
    have e6 : gm (gm a b) c = gm (gm a c) b := by rw [gm_assoc, gm_comm b c, ← gm_assoc]
    rw [e6]
    exact e5.symm
  obtain ⟨hc', hb'⟩ := two_cubes h4
  have hb := Z2_gn hb'
  refine ⟨?_, hb, hc'⟩
  have e : norm6 (a, b, c) = ga (cube a) (ga (gm b (gs (gx (gm b b)) (gm (gx (gm a c)) (3, 0)))) (gm c (gx (gx (gm c c))))) := by
    obtain ⟨a0, a1⟩ := a
    obtain ⟨b0, b1⟩ := b
    obtain ⟨c0, c1⟩ := c
    apply Prod.ext <;> simp only [cube, norm6, hm, hc, ga, gs, gm, gx] <;> grind
  rw [e] at h
  refine cube_zero (ga_z h ?_)
  have z1 := gm_zl (q := gs (gx (gm b b)) (gm (gx (gm a c)) (3, 0))) hb
  have z2 := gm_zl (q := gx (gx (gm c c))) hc'
  exact ⟨by show (_ + _) % PP = 0; rw [Int.add_emod, z1.1, z2.1]; rfl, by show (_ + _) % PP = 0; rw [Int.add_emod, z1.2, z2.2]; rfl⟩
theorem hm_hc_eq (p : H) : hm p (hc p) = (norm6 p, (0, 0), (0, 0)) := Prod.ext rfl (hm_hc p)
/-- A number but 0 times its inverse is 1. -/
theorem hm_hi {p : H} (h : ¬ Z6 p) : E6 (hm p (hi p)) ((1, 0), (0, 0), (0, 0)) := by
  have hn : ¬ Z2 (norm6 p) := fun h0 => h (norm6_zero h0)
  have e : hm p (hi p) = hk (hm p (hc p)) (gi (norm6 p)) := by
    rw [hi, ← hm_k, ← hm_assoc, hm_k]
    rfl
  rw [e, hm_hc_eq]
  refine ⟨gm_gi hn, ?_, ?_⟩
  · show E2 (gm (0, 0) (gi (norm6 p))) (0, 0)
    have := gm_zl (p := (0, 0)) (q := gi (norm6 p)) ⟨rfl, rfl⟩
    exact ⟨this.1, this.2⟩
  · show E2 (gm (0, 0) (gi (norm6 p))) (0, 0)
    have := gm_zl (p := (0, 0)) (q := gi (norm6 p)) ⟨rfl, rfl⟩
    exact ⟨this.1, this.2⟩
def O36 : H := ((0, 0), (0, 0), (0, 0))
theorem Z6_iff (p : H) : Z6 p ↔ E6 p O36 := ⟨fun h => ⟨⟨h.1.1, h.1.2⟩, ⟨h.2.1.1, h.2.1.2⟩, ⟨h.2.2.1, h.2.2.2⟩⟩, fun h => ⟨⟨h.1.1, h.1.2⟩, ⟨h.2.1.1, h.2.1.2⟩, ⟨h.2.2.1, h.2.2.2⟩⟩⟩
theorem Z6.congr {p q : H} (h : E6 p q) (hz : Z6 p) : Z6 q := ⟨Z2.congr h.1 hz.1, Z2.congr h.2.1 hz.2.1, Z2.congr h.2.2 hz.2.2⟩
theorem hm_nil (q : H) : hm O36 q = O36 := by
  obtain ⟨⟨d0, d1⟩, ⟨e0, e1⟩, f0, f1⟩ := q
  apply hext <;> apply Prod.ext <;> simp [O36, hm, ga, gm, gx]
theorem hm_zl {p q : H} (h : Z6 p) : Z6 (hm p q) := by
  have h1 := hm_congr ((Z6_iff p).1 h) (E6.rfl (p := q))
  rw [hm_nil] at h1
  exact (Z6_iff _).2 h1
theorem hm_one' (p : H) : hm ((1, 0), (0, 0), (0, 0)) p = p := by rw [hm_comm, hm_one]
theorem hm_zero {p q : H} (h : Z6 (hm p q)) (hp : ¬ Z6 p) : Z6 q := by
  have h1 : E6 (hm (hi p) (hm p q)) q := by
    rw [← hm_assoc, hm_comm (hi p) p]
    have := hm_congr (hm_hi hp) (E6.rfl (p := q))
    rwa [hm_one'] at this
  refine Z6.congr h1 ?_
  rw [hm_comm]
  exact hm_zl h
theorem hi_zero {p : H} (h : Z6 p) : Z6 (hi p) := by
  have h1 := hi_congr ((Z6_iff p).1 h)
  refine Z6.congr h1.symm ?_
  have e : hi O36 = O36 := by
    unfold hi O36
    generalize gi _ = i
    obtain ⟨i0, i1⟩ := i
    apply hext <;> apply Prod.ext <;> simp [hk, hc, gs, gm, gx]
  rw [e]
  exact (Z6_iff _).2 E6.rfl
theorem hi_ne {p : H} (h : ¬ Z6 p) : ¬ Z6 (hi p) := fun h0 => by
  have h1 := hm_hi h
  rw [hm_comm] at h1
  have h2 := Z6.congr h1 (hm_zl h0)
  exact absurd h2.1.1 (by decide +kernel)
theorem hi_hi {p : H} (h : ¬ Z6 p) : E6 (hi (hi p)) p := by
  have h1 := hm_hi h
  have h2 := hm_hi (hi_ne h)
  have e1 : E6 (hm p (hm (hi p) (hi (hi p)))) p := by
    have := hm_congr (E6.rfl (p := p)) h2
    rwa [hm_one] at this
  have e2 : E6 (hm p (hm (hi p) (hi (hi p)))) (hi (hi p)) := by
    rw [← hm_assoc]
    have := hm_congr h1 (E6.rfl (p := hi (hi p)))
    rwa [hm_one'] at this
  exact e2.symm.trans e1
theorem F6_zero (p : H) : F6 p = F6 O36 ↔ Z6 p := ⟨fun h => (Z6_iff p).2 (F6_inj h), fun h => F6_eq ((Z6_iff p).1 h)⟩
end Go.Proofs.YtpnpiiocpjbffaaDoor.Fp6
