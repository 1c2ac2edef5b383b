/-
  Own text. Squares among the numbers with u: which there are, their roots, the root with an even sign. Speaks of no program.
-/
import Derived.Test.YtpnpiiocpjbffaaDoorMFp2M
import Derived.Test.YtpnpiiocpjbffaaDoorMFpr
namespace Go.Proofs.YtpnpiiocpjbffaaDoor.Fp2r
set_option linter.unusedVariables false
open Go Go.RowKit Go.Proofs.YtpnpiiocpjbffaaDoor.Reg Go.Proofs.YtpnpiiocpjbffaaDoor.Base Go.Proofs.YtpnpiiocpjbffaaDoor.Limb Go.Proofs.YtpnpiiocpjbffaaDoor.Fp Go.Proofs.YtpnpiiocpjbffaaDoor.Fpr Go.Proofs.YtpnpiiocpjbffaaDoor.Fp2 Go.Proofs.YtpnpiiocpjbffaaDoor.Num

theorem gnorm_gm (p q : G) : gnorm (gm p q) = gnorm p * gnorm q := by
  simp only [gnorm, gm]
  grind
theorem gnorm_gp (p : G) : ∀ n, gnorm (gp p n) = gnorm p ^ n
  | 0 => by rw [gp, Int.pow_zero]; rfl
  | n + 1 => by rw [gp, gnorm_gm, gnorm_gp p n, Int.pow_succ]
/-- Whether a number with u is a square. -/
def gsq (p : G) : Bool := sq (gnorm p)
theorem gsq_congr {p q : G} (h : E2 p q) : gsq p = gsq q := sq_congr (gnorm_congr h)
theorem gsq_of {p q : G} (h : E2 (gm q q) p) : gsq p = true := by
  rw [← gsq_congr h, gsq, gnorm_gm]
  exact sq_square _
theorem gm_cancel {p q r : G} (hr : ¬ Z2 r) (h : E2 (gm p r) (gm q r)) : E2 p q := by
  have h1 := gm_congr h (E2.rfl (p := gi r))
  rw [gm_assoc, gm_assoc] at h1
  have h2 := gm_gi hr
  have e : ∀ z : G, E2 (gm z (gm r (gi r))) z := fun z => by
    have := gm_congr (E2.rfl (p := z)) h2
    rwa [gm_one] at this
  exact ((e p).symm.trans h1).trans (e q)
theorem gn_gn (p : G) : gn (gn p) = p := by apply Prod.ext <;> simp [gn]
theorem gm_neg (p q : G) : gm (gn p) (gn q) = gm p q := by
  apply Prod.ext <;> simp only [gm, gn] <;> grind
theorem Z2_gs {p q : G} (h : Z2 (gs p q)) : E2 p q := ⟨eq_of_sub h.1, eq_of_sub h.2⟩
theorem Z2_ga {p q : G} (h : Z2 (ga p q)) : E2 p (gn q) := ⟨eq_of_sub (by rw [show p.1 - (gn q).1 = p.1 + q.1 by simp [gn]]; exact h.1), eq_of_sub (by rw [show p.2 - (gn q).2 = p.2 + q.2 by simp [gn]]; exact h.2)⟩
theorem gs_zero {p q : G} (h : E2 p q) : Z2 (gs p q) := ⟨sub_of_eq h.1, sub_of_eq h.2⟩
/-- A square's roots are one and its opposite. -/
theorem two_roots {p q : G} (h : E2 (gm q q) (gm p p)) : E2 q p ∨ E2 q (gn p) := by
  have e : gm (gs q p) (ga q p) = gs (gm q q) (gm p p) := by
    apply Prod.ext <;> simp only [gm, gs, ga] <;> grind
  have h0 : Z2 (gm (gs q p) (ga q p)) := by rw [e]; exact gs_zero h
  by_cases h1 : Z2 (gs q p)
  · exact .inl (Z2_gs h1)
  · exact .inr (Z2_ga (gm_zero h0 h1))
/-- A root by two powers, as the document's answer takes it (4 L + 3 is p). -/
def rt (L : Nat) (p : G) : G :=
  if E2 (gm (gp p L) (gm (gp p L) p)) (-1, 0) then gm (gm (gp p L) p) (0, 1) else gm (gp (ga (1, 0) (gm (gp p L) (gm (gp p L) p))) (2 * L + 1)) (gm (gp p L) p)
where E2 (p q : G) : Bool := decide (p.1 % PP = q.1 % PP ∧ p.2 % PP = q.2 % PP)
theorem rtE {p q : G} : rt.E2 p q = true ↔ Fp2.E2 p q := by rw [rt.E2, decide_eq_true_iff]; exact Iff.rfl
theorem gp_sq (p : G) (n : Nat) : gm (gp p n) (gp p n) = gp p (n + n) := (gp_add p n n).symm
theorem rt_two {L : Nat} (hP : PP.toNat = 4 * L + 3) (hH : HH.toNat = 2 * L + 1) {p : G} (h : gsq p = true) : Fp2.E2 (gm (rt L p) (rt L p)) p := by
  obtain ⟨b, hb⟩ : ∃ b, gp p L = b := ⟨_, rfl⟩
  obtain ⟨c, hc⟩ : ∃ c, gm b (gm b p) = c := ⟨_, rfl⟩
  have hxx : gm (gm b p) (gm b p) = gm c p := by
    rw [← hc, gm_assoc b (gm b p) p, gm_assoc b p (gm b p), gm_comm p (gm b p)]
  unfold rt
  rw [hb, hc]
  by_cases hz : Z2 p
  · have hx : Z2 (gm b p) := by rw [gm_comm]; exact gm_zl hz
    have e0 : ∀ q, Z2 q → Fp2.E2 q p := fun q hq => ⟨by rw [hq.1, hz.1], by rw [hq.2, hz.2]⟩
    split
    · exact e0 _ (gm_zl (gm_zl hx))
    · refine e0 _ ?_
      have : Z2 (gm (gp (ga (1, 0) c) (2 * L + 1)) (gm b p)) := by rw [gm_comm]; exact gm_zl hx
      exact gm_zl this
  · have hn : gnorm p % PP ≠ 0 := fun h0 => hz (norm_zero h0)
    have hN : pw (gnorm p) HH % PP = 1 := by
      have := of_decide_eq_true h
      rcases this with h1 | h1
      · exact absurd h1 hn
      · exact h1
    have hcp : c = gp p (2 * L + 1) := by
      rw [← hc, ← hb, ← gm_assoc, gp_sq, show 2 * L + 1 = (L + L) + 1 by omega]
      rfl
    have hcn : gnorm c % PP = 1 := by rw [hcp, gnorm_gp, ← hH]; exact hN
    have hcc : Fp2.E2 (gm c (gc c)) (1, 0) := by
      rw [gm_gc]
      exact ⟨hcn.trans (by decide +kernel), rfl⟩
    split
    · next hE =>
      have h1 := rtE.1 hE
      have e : gm (gm (gm b p) (0, 1)) (gm (gm b p) (0, 1)) = gm (gm c p) (-1, 0) := by
        rw [← hxx]
        apply Prod.ext <;> simp only [gm] <;> grind
      rw [e]
      have h2 := gm_congr (gm_congr h1 (E2.rfl (p := p))) (E2.rfl (p := (-1, 0)))
      have e2 : gm (gm (-1, 0) p) (-1, 0) = p := by
        apply Prod.ext <;> simp only [gm] <;> grind
      rwa [e2] at h2
    · next hE =>
      obtain ⟨s, hs⟩ : ∃ s, ga (1, 0) c = s := ⟨_, rfl⟩
      rw [hs]
      have hsz : ¬ Z2 s := fun h0 => by
        rw [← hs, ga_comm] at h0
        exact hE (rtE.2 (Z2_ga h0))
      have hf : Fp2.E2 (gm c (gp s PP.toNat)) s := by
        refine (gm_congr (E2.rfl (p := c)) (frob s)).trans ?_
        rw [← hs, gc_ga, gm_ga]
        have h9 := ga_congr (E2.rfl (p := gm c (gc (1, 0)))) hcc
        have e9 : ga (gm c (gc (1, 0))) (1, 0) = ga (1, 0) c := by rw [show gc (1, 0) = (1, 0) from rfl, gm_one, ga_comm]
        rw [e9] at h9
        exact h9
      have h1 : Fp2.E2 (gm c (gp s (4 * L + 2))) (1, 0) := by
        refine gm_cancel hsz ?_
        rw [gm_assoc, show gm (gp s (4 * L + 2)) s = gp s PP.toNat by rw [hP]; rfl, gm_comm (1, 0) s, gm_one]
        exact hf
      have e : gm (gm (gp s (2 * L + 1)) (gm b p)) (gm (gp s (2 * L + 1)) (gm b p)) = gm (gm c (gp s (4 * L + 2))) p := by
        have e1 : gp s (4 * L + 2) = gm (gp s (2 * L + 1)) (gp s (2 * L + 1)) := by rw [gp_sq]; congr 1; omega
        rw [e1]
        generalize gp s (2 * L + 1) = k
        have e2 : gm (gm k (gm b p)) (gm k (gm b p)) = gm (gm k k) (gm (gm b p) (gm b p)) := by
          rw [gm_assoc k (gm b p), ← gm_assoc (gm b p) k, gm_comm (gm b p) k, gm_assoc k (gm b p), ← gm_assoc k k]
        rw [e2, hxx, ← gm_assoc, gm_comm (gm k k) c]
      rw [e]
      have h2 := gm_congr h1 (E2.rfl (p := p))
      rw [gm_comm (1, 0) p, gm_one] at h2
      exact h2
theorem gsq_iff {p : G} : gsq p = true ↔ ∃ q, Fp2.E2 (gm q q) p :=
  ⟨fun h => ⟨_, rt_two (L := (PP.toNat - 3) / 4) (by decide +kernel) (by decide +kernel) h⟩, fun ⟨q, h⟩ => gsq_of h⟩
/-! Signs. -/
def sg2 (p : G) : Int := if p.1 % PP = 0 then sgn p.2 else sgn p.1
def big2 (p : G) : Bool := if p.2 % PP = 0 then big p.1 else big p.2
theorem sgn_congr {x y : Int} (h : x % PP = y % PP) : sgn x = sgn y := by rw [sgn, sgn, h]
theorem big_congr {x y : Int} (h : x % PP = y % PP) : big x = big y := by rw [big, big, fe_congr h, fe_congr (neg_congr h)]
theorem sg2_congr {p q : G} (h : Fp2.E2 p q) : sg2 p = sg2 q := by rw [sg2, sg2, h.1, sgn_congr h.1, sgn_congr h.2]
theorem big2_congr {p q : G} (h : Fp2.E2 p q) : big2 p = big2 q := by rw [big2, big2, h.2, big_congr h.1, big_congr h.2]
theorem sg2_or (p : G) : sg2 p = 0 ∨ sg2 p = 1 := by unfold sg2; split <;> exact sgn_or _
theorem neg_iff (x : Int) : (-x) % PP = 0 ↔ x % PP = 0 := ⟨fun h => by have := neg_zero h; rwa [Int.neg_neg] at this, neg_zero⟩
theorem sg2_neg {p : G} (h : ¬ Z2 p) : sg2 (gn p) = 1 - sg2 p := by
  unfold sg2
  by_cases h1 : p.1 % PP = 0
  · rw [if_pos h1, if_pos (show (gn p).1 % PP = 0 from neg_zero h1)]
    exact sgn_neg (fun h2 => h ⟨h1, h2⟩)
  · rw [if_neg h1, if_neg (show ¬ (gn p).1 % PP = 0 from fun h2 => h1 ((neg_iff _).1 h2))]
    exact sgn_neg h1
theorem sg2_zero {p : G} (h : Z2 p) : sg2 p = 0 := by rw [sg2, if_pos h.1]; exact sgn_zero h.2
theorem big2_neg {p : G} (h : ¬ Z2 p) : big2 (gn p) = !big2 p := by
  unfold big2
  by_cases h1 : p.2 % PP = 0
  · rw [if_pos h1, if_pos (show (gn p).2 % PP = 0 from neg_zero h1)]
    exact big_neg (fun h2 => h ⟨h2, h1⟩)
  · rw [if_neg h1, if_neg (show ¬ (gn p).2 % PP = 0 from fun h2 => h1 ((neg_iff _).1 h2))]
    exact big_neg h1
theorem big2_zero {p : G} (h : Z2 p) : big2 p = false := by rw [big2, if_pos h.2]; exact big_zero h.1
/-- Of a number and its opposite the one with the sign 0. -/
def ev2 (p : G) : List Int := if sg2 p = 0 then F2 p else F2 (gn p)
theorem ev2_congr {p q : G} (h : Fp2.E2 p q) : ev2 p = ev2 q := by rw [ev2, ev2, sg2_congr h, F2_eq h, F2_eq (gn_congr h)]
theorem gn_zero {p : G} (h : Z2 p) : Fp2.E2 (gn p) p := ⟨by rw [h.1]; exact neg_zero h.1, by rw [h.2]; exact neg_zero h.2⟩
theorem ev2_neg (p : G) : ev2 (gn p) = ev2 p := by
  by_cases h : Z2 p
  · exact ev2_congr (gn_zero h)
  · rw [ev2, ev2, sg2_neg h, gn_gn]
    rcases sg2_or p with h1 | h1 <;> rw [h1] <;> rfl
theorem ev2_or (p : G) : ev2 p = F2 p ∨ ev2 p = F2 (gn p) := by
  unfold ev2
  split
  · exact .inl rfl
  · exact .inr rfl
theorem ev2_nm (p : G) : Nm 12 (ev2 p) := by rcases ev2_or p with h | h <;> rw [h] <;> exact .F2 _
theorem ev2_two (p : G) : F2 (gm (v2 (ev2 p)) (v2 (ev2 p))) = F2 (gm p p) := by
  rcases ev2_or p with h | h <;> rw [h]
  · exact F2_eq (gm_congr (v2_F2 _) (v2_F2 _))
  · rw [F2_eq (gm_congr (v2_F2 _) (v2_F2 _)), gm_neg]
theorem ev2_sg (p : G) : sg2 (v2 (ev2 p)) = 0 := by
  by_cases h : Z2 p
  · refine sg2_zero ?_
    rcases ev2_or p with h1 | h1 <;> rw [h1]
    · exact Z2.congr (v2_F2 _).symm h
    · exact Z2.congr ((v2_F2 _).trans (gn_zero h)).symm h
  · unfold ev2
    split
    · next h1 => rw [sg2_congr (v2_F2 _)]; exact h1
    · next h1 =>
      rw [sg2_congr (v2_F2 _), sg2_neg h]
      rcases sg2_or p with h2 | h2
      · exact absurd h2 h1
      · rw [h2]; rfl
/-- The root that the document asks. -/
def root2 (p : G) : List Int := ev2 (rt ((PP.toNat - 3) / 4) p)
theorem root2_nm (p : G) : Nm 12 (root2 p) := ev2_nm _
theorem root_of {p q r : G} (h : Fp2.E2 (gm q q) p) (h' : Fp2.E2 (gm r r) p) : ev2 r = ev2 q := by
  rcases two_roots (h'.trans h.symm) with h1 | h1
  · exact ev2_congr h1
  · rw [ev2_congr h1, ev2_neg]
theorem rt_root {p : G} (h : gsq p = true) : Fp2.E2 (gm (rt ((PP.toNat - 3) / 4) p) (rt ((PP.toNat - 3) / 4) p)) p := rt_two (by decide +kernel) (by decide +kernel) h
theorem root2_of {p q : G} (h : Fp2.E2 (gm q q) p) : root2 p = ev2 q := root_of h (rt_root (gsq_of h))
theorem root2_two {p : G} (h : gsq p = true) : F2 (gm (v2 (root2 p)) (v2 (root2 p))) = F2 p := by
  rw [root2, ev2_two]
  exact F2_eq (rt_root h)
theorem root2_congr {p q : G} (h : Fp2.E2 p q) (hp : gsq p = true) : root2 p = root2 q := by
  obtain ⟨r, hr⟩ := gsq_iff.1 hp
  rw [root2_of hr, root2_of (hr.trans h)]
/-- A number whose square is not another's is no root. -/
theorem no_root {p : G} (h : gsq p = false) (q : G) : F2 (gm q q) ≠ F2 p := fun e => by
  rw [gsq_of (F2_inj e)] at h
  cases h
/-! Squares, norms, products. -/
theorem gsq_real (x : Int) : gsq (x, 0) = true := by
  rw [gsq, show gnorm (x, 0) = x * x by simp [gnorm]]
  exact sq_square x
theorem gsq_zero {p : G} (h : Z2 p) : gsq p = true := by
  refine sq_zero ?_
  rw [gnorm_congr (show Fp2.E2 p (0, 0) from ⟨h.1, h.2⟩)]
  rfl
theorem norm_ne {p : G} (h : ¬ Z2 p) : gnorm p % PP ≠ 0 := fun h0 => h (norm_zero h0)
theorem gsq_gm {p q : G} (h : ¬ Z2 (gm p q)) : gsq (gm p q) = (gsq p == gsq q) := by
  have h1 := norm_ne h
  rw [gnorm_gm] at h1
  rw [gsq, gnorm_gm, sq_mul h1]
  rfl
theorem two_half : (2 : Int) ^ HH.toNat % PP = PP - 1 := by
  have h1 : ((2 ^ HH.toNat % PP.toNat : Nat) : Int) = ((pm 384 2 HH.toNat PP.toNat 1 % PP.toNat : Nat) : Int) := by
    rw [pm_eq 384 2 HH.toNat PP.toNat 1 (by decide +kernel), Nat.one_mul]
  have h2 : ((2 ^ HH.toNat % PP.toNat : Nat) : Int) = (2 : Int) ^ HH.toNat % PP := by
    rw [Int.natCast_emod, Int.natCast_pow, PP_nat]
    rfl
  rw [← h2, h1]
  decide +kernel
theorem sq_two : sq 2 = false := by
  refine decide_eq_false (fun h0 => ?_)
  rcases h0 with h0 | h0
  · exact absurd h0 (by decide +kernel)
  · rw [pw, two_half] at h0
    exact absurd h0 (by decide +kernel)
theorem gsq_xi {p : G} (h : gsq p = true) : gsq (gm p (1, 1)) = decide (F2 p = [0, 0, 0, 0, 0, 0, 0, 0, 0, 0, 0, 0]) := by
  by_cases hz : Z2 p
  · rw [decide_eq_true ((F2_zero p).2 hz), gsq_zero (gm_zl hz)]
  · rw [decide_eq_false (fun h0 => hz ((F2_zero p).1 h0))]
    have h1 : ¬ Z2 (gm p (1, 1)) := fun h0 => by
      have := gm_zero h0 hz
      exact absurd this.1 (by decide +kernel)
    rw [gsq_gm h1, h, show gsq (1, 1) = false from sq_two]
    rfl
end Go.Proofs.YtpnpiiocpjbffaaDoor.Fp2r
