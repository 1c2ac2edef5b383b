/-
  Own text. Numbers with v over numbers with u: three parts of twelve words. Speaks of no landed body.
-/
import Derived.Test.YtpnpiiocpjbffaaDoorMFp2M
namespace Go.Proofs.YtpnpiiocpjbffaaDoor.Fp6
set_option linter.unusedVariables false
open Go Go.RowKit Go.Proofs.YtpnpiiocpjbffaaDoor.Reg Go.Proofs.YtpnpiiocpjbffaaDoor.Base Go.Proofs.YtpnpiiocpjbffaaDoor.Limb Go.Proofs.YtpnpiiocpjbffaaDoor.Fp Go.Proofs.YtpnpiiocpjbffaaDoor.Fp2

/-- Numbers A + B v + C v v, whose parts are numbers with u. -/
abbrev H := G × G × G
/-- Times 1 + u. -/
def gx (p : G) : G := gm p (1, 1)
def ha (p q : H) : H := (ga p.1 q.1, ga p.2.1 q.2.1, ga p.2.2 q.2.2)
def hs (p q : H) : H := (gs p.1 q.1, gs p.2.1 q.2.1, gs p.2.2 q.2.2)
def hn (p : H) : H := (gn p.1, gn p.2.1, gn p.2.2)
def hk (p : H) (k : G) : H := (gm p.1 k, gm p.2.1 k, gm p.2.2 k)
def hm (p q : H) : H :=
  (ga (gm p.1 q.1) (gx (ga (gm p.2.1 q.2.2) (gm p.2.2 q.2.1))), ga (ga (gm p.1 q.2.1) (gm p.2.1 q.1)) (gx (gm p.2.2 q.2.2)), ga (ga (gm p.1 q.2.2) (gm p.2.1 q.2.1)) (gm p.2.2 q.1))
/-- Times v. -/
def hv (p : H) : H := (gx p.2.2, p.1, p.2.1)
/-- What a number is multiplied by to have the first part alone. -/
def hc (p : H) : H := (gs (gm p.1 p.1) (gx (gm p.2.1 p.2.2)), gs (gx (gm p.2.2 p.2.2)) (gm p.1 p.2.1), gs (gm p.2.1 p.2.1) (gm p.1 p.2.2))
def hi (p : H) : H := hk (hc p) (gi (hm p (hc p)).1)
def F6 (p : H) : List Int := F2 p.1 ++ F2 p.2.1 ++ F2 p.2.2
def v6 (l : List Int) : H := (v2 (seg 0 12 l), v2 (seg 12 12 l), v2 (seg 24 12 l))
def E6 (p q : H) : Prop := E2 p.1 q.1 ∧ E2 p.2.1 q.2.1 ∧ E2 p.2.2 q.2.2
theorem E6.rfl {p : H} : E6 p p := ⟨E2.rfl, E2.rfl, E2.rfl⟩
theorem E6.symm {p q : H} (h : E6 p q) : E6 q p := ⟨h.1.symm, h.2.1.symm, h.2.2.symm⟩
theorem E6.trans {p q r : H} (h : E6 p q) (h' : E6 q r) : E6 p r := ⟨h.1.trans h'.1, h.2.1.trans h'.2.1, h.2.2.trans h'.2.2⟩
theorem F6_eq {p q : H} (h : E6 p q) : F6 p = F6 q := by rw [F6, F6, F2_eq h.1, F2_eq h.2.1, F2_eq h.2.2]
theorem Nm.F6 (p : H) : Nm 36 (F6 p) := ((Nm.F2 _).app (Nm.F2 _)).app (Nm.F2 _)
theorem seg_F6a (p : H) : seg 0 12 (F6 p) = F2 p.1 := by
  show (F2 p.1 ++ F2 p.2.1 ++ F2 p.2.2).take 12 = _
  rw [List.append_assoc, List.take_left' (Nm.F2 _).len]
theorem seg_F6b (p : H) : seg 12 12 (F6 p) = F2 p.2.1 := by
  rw [seg, Fp6.F6, List.append_assoc, List.drop_left' (Nm.F2 _).len, List.take_left' (Nm.F2 _).len]
theorem seg_F6c (p : H) : seg 24 12 (F6 p) = F2 p.2.2 := by
  rw [seg, Fp6.F6, List.drop_left' ((Nm.F2 p.1).app (Nm.F2 p.2.1)).len, List.take_of_length_le (by rw [(Nm.F2 _).len]; omega)]
theorem v6_F6 (p : H) : E6 (v6 (F6 p)) p := by
  rw [v6, seg_F6a, seg_F6b, seg_F6c]
  exact ⟨v2_F2 _, v2_F2 _, v2_F2 _⟩
theorem F6_inj {p q : H} (h : F6 p = F6 q) : E6 p q := by
  have h1 := seg_F6a p; rw [h, seg_F6a] at h1
  have h2 := seg_F6b p; rw [h, seg_F6b] at h2
  have h3 := seg_F6c p; rw [h, seg_F6c] at h3
  exact ⟨(F2_inj h1).symm, (F2_inj h2).symm, (F2_inj h3).symm⟩
section
variable {p p' q q' : H} {k k' : G}
theorem gx_congr {a b : G} (h : E2 a b) : E2 (gx a) (gx b) := gm_congr h E2.rfl
theorem ha_congr (h : E6 p p') (h' : E6 q q') : E6 (ha p q) (ha p' q') := ⟨ga_congr h.1 h'.1, ga_congr h.2.1 h'.2.1, ga_congr h.2.2 h'.2.2⟩
theorem hs_congr (h : E6 p p') (h' : E6 q q') : E6 (hs p q) (hs p' q') := ⟨gs_congr h.1 h'.1, gs_congr h.2.1 h'.2.1, gs_congr h.2.2 h'.2.2⟩
theorem hn_congr (h : E6 p p') : E6 (hn p) (hn p') := ⟨gn_congr h.1, gn_congr h.2.1, gn_congr h.2.2⟩
theorem hk_congr (h : E6 p p') (h' : E2 k k') : E6 (hk p k) (hk p' k') := ⟨gm_congr h.1 h', gm_congr h.2.1 h', gm_congr h.2.2 h'⟩
theorem hm_congr (h : E6 p p') (h' : E6 q q') : E6 (hm p q) (hm p' q') :=
  ⟨ga_congr (gm_congr h.1 h'.1) (gx_congr (ga_congr (gm_congr h.2.1 h'.2.2) (gm_congr h.2.2 h'.2.1))),
   ga_congr (ga_congr (gm_congr h.1 h'.2.1) (gm_congr h.2.1 h'.1)) (gx_congr (gm_congr h.2.2 h'.2.2)),
   ga_congr (ga_congr (gm_congr h.1 h'.2.2) (gm_congr h.2.1 h'.2.1)) (gm_congr h.2.2 h'.1)⟩
theorem hc_congr (h : E6 p p') : E6 (hc p) (hc p') :=
  ⟨gs_congr (gm_congr h.1 h.1) (gx_congr (gm_congr h.2.1 h.2.2)), gs_congr (gx_congr (gm_congr h.2.2 h.2.2)) (gm_congr h.1 h.2.1), gs_congr (gm_congr h.2.1 h.2.1) (gm_congr h.1 h.2.2)⟩
theorem hi_congr (h : E6 p p') : E6 (hi p) (hi p') := hk_congr (hc_congr h) (gi_congr (hm_congr h (hc_congr h)).1)
end
section
variable (p q r : H)
theorem hext {p q : H} (h1 : p.1 = q.1) (h2 : p.2.1 = q.2.1) (h3 : p.2.2 = q.2.2) : p = q := Prod.ext h1 (Prod.ext h2 h3)
theorem ha_comm : ha p q = ha q p := hext (ga_comm _ _) (ga_comm _ _) (ga_comm _ _)
theorem ha_assoc : ha (ha p q) r = ha p (ha q r) := hext (ga_assoc _ _ _) (ga_assoc _ _ _) (ga_assoc _ _ _)
theorem hs_eq : hs p q = ha p (hn q) := hext (gs_eq _ _) (gs_eq _ _) (gs_eq _ _)
theorem ha_zero : ha p ((0, 0), (0, 0), (0, 0)) = p := hext (ga_zero _) (ga_zero _) (ga_zero _)
theorem ha_hn : ha p (hn p) = ((0, 0), (0, 0), (0, 0)) := hext (ga_gn _) (ga_gn _) (ga_gn _)
theorem hm_comm : hm p q = hm q p := by
  obtain ⟨⟨a0, a1⟩, ⟨b0, b1⟩, c0, c1⟩ := p
  obtain ⟨⟨d0, d1⟩, ⟨e0, e1⟩, f0, f1⟩ := q
  apply hext <;> apply Prod.ext <;> simp only [hm, ga, gm, gx] <;> grind
theorem hm_assoc : hm (hm p q) r = hm p (hm q r) := by
  obtain ⟨⟨a0, a1⟩, ⟨b0, b1⟩, c0, c1⟩ := p
  obtain ⟨⟨d0, d1⟩, ⟨e0, e1⟩, f0, f1⟩ := q
  obtain ⟨⟨x0, x1⟩, ⟨y0, y1⟩, z0, z1⟩ := r
  apply hext <;> apply Prod.ext <;> simp only [hm, ga, gm, gx] <;> grind
theorem hm_ha : hm p (ha q r) = ha (hm p q) (hm p r) := by
  obtain ⟨⟨a0, a1⟩, ⟨b0, b1⟩, c0, c1⟩ := p
  obtain ⟨⟨d0, d1⟩, ⟨e0, e1⟩, f0, f1⟩ := q
  obtain ⟨⟨x0, x1⟩, ⟨y0, y1⟩, z0, z1⟩ := r
  apply hext <;> apply Prod.ext <;> simp only [hm, ha, ga, gm, gx] <;> grind
theorem hm_one : hm p ((1, 0), (0, 0), (0, 0)) = p := by
  obtain ⟨⟨a0, a1⟩, ⟨b0, b1⟩, c0, c1⟩ := p
  apply hext <;> apply Prod.ext <;> simp only [hm, ga, gm, gx] <;> grind
theorem hm_v : hm p ((0, 0), (1, 0), (0, 0)) = hv p := by
  obtain ⟨⟨a0, a1⟩, ⟨b0, b1⟩, c0, c1⟩ := p
  apply hext <;> apply Prod.ext <;> simp only [hm, hv, ga, gm, gx] <;> grind
theorem hm_k (k : G) : hm p (k, (0, 0), (0, 0)) = hk p k := by
  obtain ⟨⟨a0, a1⟩, ⟨b0, b1⟩, c0, c1⟩ := p
  obtain ⟨k0, k1⟩ := k
  apply hext <;> apply Prod.ext <;> simp only [hm, hk, ga, gm, gx] <;> grind
/-- The product with it has the first part alone. -/
theorem hm_hc : (hm p (hc p)).2 = ((0, 0), (0, 0)) := by
  obtain ⟨⟨a0, a1⟩, ⟨b0, b1⟩, c0, c1⟩ := p
  apply Prod.ext <;> apply Prod.ext <;> simp only [hm, hc, ga, gs, gm, gx] <;> grind
end
end Go.Proofs.YtpnpiiocpjbffaaDoor.Fp6
