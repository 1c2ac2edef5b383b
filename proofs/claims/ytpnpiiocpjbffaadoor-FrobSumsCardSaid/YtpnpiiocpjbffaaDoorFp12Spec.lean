/-
  Own text. Numbers with w over numbers with v: two parts of thirty-six words. Speaks of no landed body.
-/
import Derived.Test.YtpnpiiocpjbffaaDoorFp6Math
namespace Go.Proofs.YtpnpiiocpjbffaaDoor.Fp12
set_option linter.unusedVariables false
open Go Go.RowKit Go.Proofs.YtpnpiiocpjbffaaDoor.Reg Go.Proofs.YtpnpiiocpjbffaaDoor.Base Go.Proofs.YtpnpiiocpjbffaaDoor.Limb Go.Proofs.YtpnpiiocpjbffaaDoor.Fp Go.Proofs.YtpnpiiocpjbffaaDoor.Fp2 Go.Proofs.YtpnpiiocpjbffaaDoor.Fp6

/-- Numbers A + B w, whose parts are numbers with v. -/
abbrev K := H × H
def ka (p q : K) : K := (ha p.1 q.1, ha p.2 q.2)
def ks (p q : K) : K := (hs p.1 q.1, hs p.2 q.2)
def kn (p : K) : K := (hn p.1, hn p.2)
def kc (p : K) : K := (p.1, hn p.2)
def km (p q : K) : K := (ha (hm p.1 q.1) (hv (hm p.2 q.2)), ha (hm p.1 q.2) (hm p.2 q.1))
def kk (p : K) (x : H) : K := (hm p.1 x, hm p.2 x)
def ki (p : K) : K := kk (kc p) (hi (km p (kc p)).1)
def k1 : K := (((1, 0), (0, 0), (0, 0)), O36)
def kp (p : K) : Nat → K
  | 0 => k1
  | n + 1 => km (kp p n) p
def F12 (p : K) : List Int := F6 p.1 ++ F6 p.2
def v12 (l : List Int) : K := (v6 (seg 0 36 l), v6 (seg 36 36 l))
def E12 (p q : K) : Prop := E6 p.1 q.1 ∧ E6 p.2 q.2
theorem E12.rfl {p : K} : E12 p p := ⟨E6.rfl, E6.rfl⟩
theorem E12.symm {p q : K} (h : E12 p q) : E12 q p := ⟨h.1.symm, h.2.symm⟩
theorem E12.trans {p q r : K} (h : E12 p q) (h' : E12 q r) : E12 p r := ⟨h.1.trans h'.1, h.2.trans h'.2⟩
theorem F12_eq {p q : K} (h : E12 p q) : F12 p = F12 q := by rw [F12, F12, F6_eq h.1, F6_eq h.2]
theorem Nm.F12 (p : K) : Nm 72 (F12 p) := (Nm.F6 _).app (Nm.F6 _)
theorem seg_F12a (p : K) : seg 0 36 (F12 p) = F6 p.1 := List.take_left' (Nm.F6 _).len
theorem seg_F12b (p : K) : seg 36 36 (F12 p) = F6 p.2 := by
  rw [seg, Fp12.F12, List.drop_left' (Nm.F6 _).len, List.take_of_length_le (by rw [(Nm.F6 _).len]; omega)]
theorem v12_F12 (p : K) : E12 (v12 (F12 p)) p := by
  rw [v12, seg_F12a, seg_F12b]
  exact ⟨v6_F6 _, v6_F6 _⟩
theorem F12_inj {p q : K} (h : F12 p = F12 q) : E12 p q := by
  have h1 := seg_F12a p; rw [h, seg_F12a] at h1
  have h2 := seg_F12b p; rw [h, seg_F12b] at h2
  exact ⟨(F6_inj h1).symm, (F6_inj h2).symm⟩
theorem hv_congr {p q : H} (h : E6 p q) : E6 (hv p) (hv q) := ⟨gx_congr h.2.2, h.1, h.2.1⟩
section
variable {p p' q q' : K} {x x' : H}
theorem ka_congr (h : E12 p p') (h' : E12 q q') : E12 (ka p q) (ka p' q') := ⟨ha_congr h.1 h'.1, ha_congr h.2 h'.2⟩
theorem ks_congr (h : E12 p p') (h' : E12 q q') : E12 (ks p q) (ks p' q') := ⟨hs_congr h.1 h'.1, hs_congr h.2 h'.2⟩
theorem kn_congr (h : E12 p p') : E12 (kn p) (kn p') := ⟨hn_congr h.1, hn_congr h.2⟩
theorem kc_congr (h : E12 p p') : E12 (kc p) (kc p') := ⟨h.1, hn_congr h.2⟩
theorem km_congr (h : E12 p p') (h' : E12 q q') : E12 (km p q) (km p' q') :=
  ⟨ha_congr (hm_congr h.1 h'.1) (hv_congr (hm_congr h.2 h'.2)), ha_congr (hm_congr h.1 h'.2) (hm_congr h.2 h'.1)⟩
theorem kk_congr (h : E12 p p') (h' : E6 x x') : E12 (kk p x) (kk p' x') := ⟨hm_congr h.1 h', hm_congr h.2 h'⟩
theorem ki_congr (h : E12 p p') : E12 (ki p) (ki p') := kk_congr (kc_congr h) (hi_congr (km_congr h (kc_congr h)).1)
theorem kp_congr (h : E12 p p') : ∀ n, E12 (kp p n) (kp p' n)
  | 0 => E12.rfl
  | n + 1 => km_congr (kp_congr h n) h
end
/-! Numbers with v: what is asked of them. -/
section
variable (a b c d : H)
theorem ha_hm : hm (ha a b) c = ha (hm a c) (hm b c) := by rw [hm_comm, hm_ha, hm_comm c a, hm_comm c b]
theorem hv_hm : hv (hm a b) = hm (hv a) b := by rw [← hm_v, ← hm_v, hm_assoc, hm_assoc, hm_comm b]
theorem hv_ha : hv (ha a b) = ha (hv a) (hv b) := by rw [← hm_v, ha_hm, hm_v, hm_v]
theorem hm_hv : hm a (hv b) = hv (hm a b) := by rw [hm_comm, ← hv_hm, hm_comm]
theorem hn_hm : hm a (hn b) = hn (hm a b) := by
  obtain ⟨⟨a0, a1⟩, ⟨b0, b1⟩, c0, c1⟩ := a
  obtain ⟨⟨d0, d1⟩, ⟨e0, e1⟩, f0, f1⟩ := b
  apply hext <;> apply Prod.ext <;> simp only [hm, hn, ga, gn, gm, gx] <;> grind
theorem hn_hm' : hm (hn a) b = hn (hm a b) := by rw [hm_comm, hn_hm, hm_comm]
theorem hn_hn : hn (hn a) = a := by
  obtain ⟨⟨a0, a1⟩, ⟨b0, b1⟩, c0, c1⟩ := a
  simp [hn, gn]
theorem hn_ha : hn (ha a b) = ha (hn a) (hn b) := hext (gn_ga _ _) (gn_ga _ _) (gn_ga _ _)
theorem hn_hv : hn (hv a) = hv (hn a) := by rw [← hm_v, ← hm_v, ← hn_hm']
theorem ha_swap : ha (ha a b) (ha c d) = ha (ha a c) (ha b d) := by rw [ha_assoc, ← ha_assoc b, ha_comm b c, ha_assoc c, ← ha_assoc]
theorem ha_nil : ha a O36 = a := ha_zero a
theorem hm_nil' : hm a O36 = O36 := by rw [hm_comm, hm_nil]
end
section
variable (p q r : K)
theorem ka_comm : ka p q = ka q p := Prod.ext (ha_comm _ _) (ha_comm _ _)
theorem ka_assoc : ka (ka p q) r = ka p (ka q r) := Prod.ext (ha_assoc _ _ _) (ha_assoc _ _ _)
theorem ks_eq : ks p q = ka p (kn q) := Prod.ext (hs_eq _ _) (hs_eq _ _)
theorem ka_kn : ka p (kn p) = (O36, O36) := Prod.ext (ha_hn _) (ha_hn _)
theorem ka_zero : ka p (O36, O36) = p := Prod.ext (ha_nil _) (ha_nil _)
theorem km_comm : km p q = km q p := Prod.ext (by show ha _ _ = ha _ _; rw [hm_comm p.1, hm_comm p.2]) (by show ha _ _ = ha _ _; rw [ha_comm, hm_comm p.1, hm_comm p.2])
theorem km_ka : km p (ka q r) = ka (km p q) (km p r) := by
  refine Prod.ext ?_ ?_
  · show ha (hm p.1 (ha q.1 r.1)) (hv (hm p.2 (ha q.2 r.2))) = ha (ha _ _) (ha _ _)
    rw [hm_ha, hm_ha, hv_ha, ha_swap]
  · show ha (hm p.1 (ha q.2 r.2)) (hm p.2 (ha q.1 r.1)) = ha (ha _ _) (ha _ _)
    rw [hm_ha, hm_ha, ha_swap]
theorem km_assoc : km (km p q) r = km p (km q r) := by
  obtain ⟨a, b⟩ := p
  obtain ⟨c, d⟩ := q
  obtain ⟨e, f⟩ := r
  refine Prod.ext ?_ ?_
  · show ha (hm (ha (hm a c) (hv (hm b d))) e) (hv (hm (ha (hm a d) (hm b c)) f)) = ha (hm a (ha (hm c e) (hv (hm d f)))) (hv (hm b (ha (hm c f) (hm d e))))
    rw [ha_hm, ha_hm, hm_ha, hm_ha, hv_ha, hv_ha, ← hv_hm, hm_hv, hm_assoc, hm_assoc, hm_assoc, hm_assoc, ha_assoc, ha_assoc]
    congr 1
    rw [ha_comm, ha_assoc]
  · show ha (hm (ha (hm a c) (hv (hm b d))) f) (hm (ha (hm a d) (hm b c)) e) = ha (hm a (ha (hm c f) (hm d e))) (hm b (ha (hm c e) (hv (hm d f))))
    rw [ha_hm, ha_hm, hm_ha, hm_ha, ← hv_hm, hm_hv, hm_assoc, hm_assoc, hm_assoc, hm_assoc, ha_assoc, ha_assoc]
    congr 1
    rw [ha_comm, ha_assoc]
theorem km_one : km p k1 = p := by
  refine Prod.ext ?_ ?_
  · show ha (hm p.1 ((1, 0), (0, 0), (0, 0))) (hv (hm p.2 O36)) = p.1
    rw [hm_one, hm_nil', show hv O36 = O36 from rfl, ha_nil]
  · show ha (hm p.1 O36) (hm p.2 ((1, 0), (0, 0), (0, 0))) = p.2
    rw [hm_nil', hm_one, ha_comm, ha_nil]
theorem kc_ka : kc (ka p q) = ka (kc p) (kc q) := Prod.ext rfl (hn_ha _ _)
theorem kc_kc : kc (kc p) = p := Prod.ext rfl (hn_hn _)
theorem kc_km : kc (km p q) = km (kc p) (kc q) := by
  refine Prod.ext ?_ ?_
  · show ha (hm p.1 q.1) (hv (hm p.2 q.2)) = ha (hm p.1 q.1) (hv (hm (hn p.2) (hn q.2)))
    rw [hn_hm, hn_hm', hn_hn]
  · show hn (ha (hm p.1 q.2) (hm p.2 q.1)) = ha (hm p.1 (hn q.2)) (hm (hn p.2) q.1)
    rw [hn_ha, hn_hm, hn_hm']
/-- The product with the conjugate has the first part alone. -/
theorem km_kc : km p (kc p) = (hs (hm p.1 p.1) (hv (hm p.2 p.2)), O36) := by
  refine Prod.ext ?_ ?_
  · show ha (hm p.1 p.1) (hv (hm p.2 (hn p.2))) = _
    rw [hn_hm, ← hn_hv, ← hs_eq]
  · show ha (hm p.1 (hn p.2)) (hm p.2 p.1) = O36
    rw [hn_hm, hm_comm p.2, ha_comm, ha_hn]
    rfl
theorem km_kk (x : H) : km p (kk q x) = kk (km p q) x := by
  refine Prod.ext ?_ ?_
  · show ha (hm p.1 (hm q.1 x)) (hv (hm p.2 (hm q.2 x))) = hm (ha (hm p.1 q.1) (hv (hm p.2 q.2))) x
    rw [ha_hm, ← hv_hm, hm_assoc, hm_assoc]
  · show ha (hm p.1 (hm q.2 x)) (hm p.2 (hm q.1 x)) = hm (ha _ _) x
    rw [ha_hm, hm_assoc, hm_assoc]
theorem kp_add (m : Nat) : ∀ n, kp p (m + n) = km (kp p m) (kp p n)
  | 0 => (km_one _).symm
  | n + 1 => by
    rw [← Nat.add_assoc, kp, kp, kp_add m n, km_assoc]
theorem kp_one : kp p 1 = p := by rw [kp, kp, km_comm, km_one]
theorem kp_mul (m : Nat) : ∀ n, kp p (m * n) = kp (kp p m) n
  | 0 => rfl
  | n + 1 => by rw [Nat.mul_succ, kp_add, kp_mul m n, kp]
theorem kp_km : ∀ n, kp (km p q) n = km (kp p n) (kp q n)
  | 0 => (km_one k1).symm
  | n + 1 => by
    rw [kp, kp, kp, kp_km n, km_assoc, km_assoc, ← km_assoc (kp q n), km_comm (kp q n) p, km_assoc p]
end
/-! Inverses. -/
theorem hc_hm (p q : H) : hc (hm p q) = hm (hc p) (hc q) := by
  obtain ⟨⟨a0, a1⟩, ⟨b0, b1⟩, c0, c1⟩ := p
  obtain ⟨⟨d0, d1⟩, ⟨e0, e1⟩, f0, f1⟩ := q
  apply hext <;> apply Prod.ext <;> simp only [hm, hc, ga, gs, gm, gx] <;> grind
theorem norm6_hm (p q : H) : norm6 (hm p q) = gm (norm6 p) (norm6 q) := by
  have h : hm (hm p q) (hc (hm p q)) = hm (hm p (hc p)) (hm q (hc q)) := by
    rw [hc_hm, hm_assoc, ← hm_assoc q, hm_comm q (hc p), hm_assoc (hc p), ← hm_assoc p]
  rw [hm_hc_eq, hm_hc_eq, hm_hc_eq, hm_k] at h
  exact congrArg (fun x : H => x.1) h
theorem norm6_congr {p q : H} (h : E6 p q) : E2 (norm6 p) (norm6 q) := (hm_congr h (hc_congr h)).1
/-- v is no square. -/
theorem no_root (z : H) : ¬ E6 (hm z z) ((0, 0), (1, 0), (0, 0)) := fun h => by
  have h1 := norm6_congr h
  rw [norm6_hm] at h1
  have h2 := Fp2r.gsq_of h1
  have h3 : norm6 ((0, 0), (1, 0), (0, 0)) = (1, 1) := by decide
  rw [h3] at h2
  have h4 : Fp2r.gsq (1, 1) = false := Fp2r.sq_two
  rw [h4] at h2
  cases h2
def Z12 (p : K) : Prop := Z6 p.1 ∧ Z6 p.2
theorem Z12.congr {p q : K} (h : E12 p q) (hz : Z12 p) : Z12 q := ⟨Z6.congr h.1 hz.1, Z6.congr h.2 hz.2⟩
theorem Z12_iff (p : K) : Z12 p ↔ E12 p (O36, O36) := ⟨fun h => ⟨(Z6_iff _).1 h.1, (Z6_iff _).1 h.2⟩, fun h => ⟨(Z6_iff _).2 h.1, (Z6_iff _).2 h.2⟩⟩
def norm12 (p : K) : H := (km p (kc p)).1
theorem hs_z {p q : H} (h : Z6 (hs p q)) : E6 p q := ⟨Fp2r.Z2_gs h.1, Fp2r.Z2_gs h.2.1, Fp2r.Z2_gs h.2.2⟩
theorem norm12_zero {p : K} (h : Z6 (norm12 p)) : Z12 p := by
  obtain ⟨a, b⟩ := p
  have h0 : norm12 (a, b) = hs (hm a a) (hv (hm b b)) := congrArg (fun x : K => x.1) (km_kc (a, b))
  rw [h0] at h
  have h1 := hs_z h
  by_cases hb : Z6 b
  · refine ⟨?_, hb⟩
    have h2 : Z6 (hv (hm b b)) := by
      have h3 := hv_congr ((Z6_iff _).1 (hm_zl (q := b) hb))
      exact (Z6_iff _).2 h3
    have h3 := Z6.congr h1.symm h2
    by_cases ha' : Z6 a
    · exact ha'
    · exact hm_zero h3 ha'
  · exfalso
    refine no_root (hm a (hi b)) ?_
    have e : hm (hm a (hi b)) (hm a (hi b)) = hm (hm a a) (hm (hi b) (hi b)) := by
      rw [hm_assoc, ← hm_assoc (hi b) a, hm_comm (hi b) a, hm_assoc a, ← hm_assoc a a]
    rw [e]
    have h4 := hm_congr h1 (E6.rfl (p := hm (hi b) (hi b)))
    refine h4.trans ?_
    have e2 : hm (hv (hm b b)) (hm (hi b) (hi b)) = hv (hm (hm b (hi b)) (hm b (hi b))) := by
      rw [← hv_hm]
      congr 1
      rw [hm_assoc, ← hm_assoc b (hi b), hm_comm (hm b (hi b)) (hi b), ← hm_assoc b (hi b)]
    rw [e2]
    have h5 := hm_hi hb
    have h6 := hv_congr (hm_congr h5 h5)
    rwa [hm_one] at h6
theorem km_ki {p : K} (h : ¬ Z12 p) : E12 (km p (ki p)) k1 := by
  have hn : ¬ Z6 (norm12 p) := fun h0 => h (norm12_zero h0)
  have e : km p (ki p) = kk (km p (kc p)) (hi (norm12 p)) := by
    rw [ki, km_kk]
    rfl
  rw [e]
  have h1 : km p (kc p) = (norm12 p, O36) := Prod.ext rfl (show (km p (kc p)).2 = O36 from congrArg (fun x : K => x.2) (km_kc p))
  rw [h1]
  refine ⟨hm_hi hn, ?_⟩
  show E6 (hm O36 _) O36
  rw [hm_nil]
  exact E6.rfl
theorem km_one' (p : K) : km k1 p = p := by rw [km_comm, km_one]
theorem km_nil (q : K) : km (O36, O36) q = (O36, O36) := by
  refine Prod.ext ?_ ?_
  · show ha (hm O36 _) (hv (hm O36 _)) = O36
    rw [hm_nil, hm_nil]; rfl
  · show ha (hm O36 _) (hm O36 _) = O36
    rw [hm_nil, hm_nil]; rfl
theorem km_zl {p q : K} (h : Z12 p) : Z12 (km p q) := by
  have h1 := km_congr ((Z12_iff p).1 h) (E12.rfl (p := q))
  rw [km_nil] at h1
  exact (Z12_iff _).2 h1
theorem km_zero {p q : K} (h : Z12 (km p q)) (hp : ¬ Z12 p) : Z12 q := by
  have h1 : E12 (km (ki p) (km p q)) q := by
    rw [← km_assoc, km_comm (ki p) p]
    have := km_congr (km_ki hp) (E12.rfl (p := q))
    rwa [km_one'] at this
  refine Z12.congr h1 ?_
  rw [km_comm]
  exact km_zl h
theorem ki_zero {p : K} (h : Z12 p) : Z12 (ki p) := by
  refine Z12.congr (ki_congr ((Z12_iff p).1 h)).symm ?_
  have e : ki (O36, O36) = (O36, O36) := by
    unfold ki
    generalize hi _ = i
    refine Prod.ext ?_ ?_
    · show hm O36 i = O36
      exact hm_nil i
    · show hm (hn O36) i = O36
      exact hm_nil i
  rw [e]
  exact (Z12_iff _).2 E12.rfl
theorem ki_ne {p : K} (h : ¬ Z12 p) : ¬ Z12 (ki p) := fun h0 => by
  have h1 := km_ki h
  rw [km_comm] at h1
  have h2 := Z12.congr h1 (km_zl h0)
  exact absurd h2.1.1.1 (by decide +kernel)
theorem ki_ki {p : K} (h : ¬ Z12 p) : E12 (ki (ki p)) p := by
  have h1 := km_ki h
  have h2 := km_ki (ki_ne h)
  have e1 : E12 (km p (km (ki p) (ki (ki p)))) p := by
    have := km_congr (E12.rfl (p := p)) h2
    rwa [km_one] at this
  have e2 : E12 (km p (km (ki p) (ki (ki p)))) (ki (ki p)) := by
    rw [← km_assoc]
    have := km_congr h1 (E12.rfl (p := ki (ki p)))
    rwa [km_one'] at this
  exact e2.symm.trans e1
end Go.Proofs.YtpnpiiocpjbffaaDoor.Fp12
