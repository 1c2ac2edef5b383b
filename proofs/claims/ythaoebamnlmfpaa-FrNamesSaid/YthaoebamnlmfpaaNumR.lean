/-
  Own text. The prime of the scalars is a prime: elements of orders whose product is above its root. Speaks of no program.
-/
import Derived.Test.YthaoebamnlmfpaaNum
namespace Go.Proofs.Ythaoebamnlmfpaa.Num
set_option linter.unusedVariables false

/-- An element of order q ^ (e + 1). -/
theorem dvd_pow_cases {q h : Nat} (hq : Pr q) (k : Nat) (hd : h ∣ q ^ k) : h = 1 ∨ q ∣ h := by
  by_cases hh : q ∣ h
  · exact .inr hh
  · left
    have hc : Nat.Coprime h (q ^ k) := (hq.coprime hh).pow_right k
    have := Nat.gcd_eq_left hd
    rw [hc.gcd_eq_one] at this
    exact this.symm
theorem order_pow {n q c l : Nat} (e f : Nat) (hq : Pr q) (hf : q ^ (e + 1) < 2 ^ f) (hc : pm f c (q ^ (e + 1)) n 1 % n = 1) (hg : Nat.gcd (pm f c (q ^ e) n 1 % n + n - 1) n = 1) (hl : Pr l) (hd : l ∣ n) : q ^ (e + 1) ∣ l - 1 := by
  have hf2 : q ^ e < 2 ^ f := Nat.lt_of_le_of_lt (Nat.pow_le_pow_right (by have := hq.1; omega) (by omega)) hf
  rw [pm_eq _ _ _ _ _ hf, Nat.one_mul] at hc
  rw [pm_eq _ _ _ _ _ hf2, Nat.one_mul] at hg
  have h1 : 1 % l = 1 := Nat.mod_eq_of_lt hl.1
  have hcl : c ^ q ^ (e + 1) % l = 1 := by rw [← Nat.mod_mod_of_dvd _ hd, hc, h1]
  have hnc : ¬ l ∣ c := fun h => by
    have h3 : l ∣ c ^ q ^ (e + 1) := by
      have : 0 < q ^ (e + 1) := Nat.pow_pos (by have := hq.1; omega)
      obtain ⟨z, hz⟩ : ∃ z, q ^ (e + 1) = z + 1 := ⟨q ^ (e + 1) - 1, by omega⟩
      rw [hz, Nat.pow_succ]
      exact Nat.dvd_trans h (Nat.dvd_mul_left c _)
    have := Nat.mod_eq_zero_of_dvd h3
    omega
  have h2 := pow_gcd h1 (q ^ (e + 1)) (l - 1) hcl (fermat hl hnc)
  obtain ⟨g, hgd⟩ : ∃ g, Nat.gcd (q ^ (e + 1)) (l - 1) = g := ⟨_, rfl⟩
  have hg1 : g ∣ q ^ (e + 1) := hgd ▸ Nat.gcd_dvd_left _ _
  have hg2 : g ∣ l - 1 := hgd ▸ Nat.gcd_dvd_right _ _
  rw [hgd] at h2
  obtain ⟨h, hh⟩ := hg1
  rcases dvd_pow_cases hq (e + 1) ⟨g, by rw [hh, Nat.mul_comm]⟩ with e1 | ⟨h', e1⟩
  · rw [hh, e1, Nat.mul_one]
    exact hg2
  · exfalso
    have hq0 : 0 < q := by have := hq.1; omega
    have e2 : q ^ e = g * h' := by
      rw [e1, Nat.pow_succ, Nat.mul_left_comm, Nat.mul_comm q] at hh
      exact Nat.eq_of_mul_eq_mul_right hq0 hh
    have e3 : c ^ q ^ e % l = 1 := by rw [e2, Nat.pow_mul]; exact pow_mod_one h1 _ h2
    have e4 : c ^ q ^ e % n % l = 1 := by rw [Nat.mod_mod_of_dvd _ hd, e3]
    obtain ⟨u, hu⟩ : ∃ u, c ^ q ^ e % n = u := ⟨_, rfl⟩
    rw [hu] at e4 hg
    have h3 : l ∣ u + n - 1 := by
      have hu1 : 1 ≤ u := Nat.pos_of_ne_zero (by rintro rfl; simp at e4)
      rw [Nat.add_comm, Nat.add_sub_assoc hu1]
      exact Nat.dvd_add hd (Nat.dvd_of_mod_eq_zero (Nat.sub_mod_eq_zero_of_mod_eq (e4.trans h1.symm)))
    have h4 := Nat.dvd_gcd h3 hd
    rw [hg] at h4
    have := Nat.le_of_dvd (by omega) h4
    have := hl.1
    omega
theorem pr_of_dvd {n F : Nat} (hn : 2 ≤ n) (h : ∀ l, Pr l → l ∣ n → F ∣ l - 1) (hF : n < (F + 1) * (F + 1)) : Pr n := by
  obtain ⟨l, hl, hd, hm⟩ := least_prime hn
  have hl2 := hl.1
  have hle := Nat.le_of_dvd (by omega) (h l hl hd)
  refine ⟨hn, fun d hdn => ?_⟩
  by_cases h1 : d = 1
  · exact .inl h1
  · right
    obtain ⟨e, he⟩ := hdn
    by_cases h2 : e = 1
    · rw [he, h2, Nat.mul_one]
    · exfalso
      have hd0 : d ≠ 0 := by rintro rfl; omega
      have he0 : e ≠ 0 := by rintro rfl; omega
      have a1 := hm d ⟨e, he⟩ (by omega)
      have a2 := hm e ⟨d, by rw [he, Nat.mul_comm]⟩ (by omega)
      have a3 := Nat.mul_le_mul a1 a2
      rw [← he] at a3
      have a5 := Nat.mul_le_mul (show F + 1 ≤ l by omega) (show F + 1 ≤ l by omega)
      omega
theorem pr_2 : Pr 2 := pr_small 0 (by decide) (by decide +kernel) (by decide)
theorem pr_906349 : Pr 906349 := pr_small 951 (by decide) (by decide +kernel) (by decide)
theorem pr_110573 : Pr 110573 := pr_small 331 (by decide) (by decide +kernel) (by decide)
theorem pr_2653753 : Pr 2653753 :=
  pock_pm (q := 110573) (c := 854698) 0 17 (by decide +kernel) pr_110573 (by decide +kernel) (by decide +kernel) (by decide +kernel) (fun k hk => absurd hk (by omega)) (by decide +kernel)
theorem pr_63690073 : Pr 63690073 :=
  pock_pm (q := 2653753) (c := 16777216) 0 22 (by decide +kernel) pr_2653753 (by decide +kernel) (by decide +kernel) (by decide +kernel) (fun k hk => absurd hk (by omega)) (by decide +kernel)
theorem pr_254760293 : Pr 254760293 :=
  pock_pm (q := 63690073) (c := 16) 0 26 (by decide +kernel) pr_63690073 (by decide +kernel) (by decide +kernel) (by decide +kernel) (fun k hk => absurd hk (by omega)) (by decide +kernel)
theorem pr_r : Pr 52435875175126190479447740508185965837690552500527637822603658699938581184513 :=
  pr_of_dvd (F := 2 ^ 32 * 906349 ^ 2 * 254760293 ^ 2) (by decide +kernel) (fun l hl hd =>
    Nat.Coprime.mul_dvd_of_dvd_of_dvd (by decide +kernel) (Nat.Coprime.mul_dvd_of_dvd_of_dvd (by decide +kernel)
      (order_pow (q := 2) (c := 937917089079007706106976984802249742464848817460758522850752807661925904159) 31 33 pr_2 (by decide +kernel) (by decide +kernel) (by decide +kernel) hl hd)
      (order_pow (q := 906349) (c := 19833812317526315051481363632290358799209859518340460872430145012981185661353) 1 40 pr_906349 (by decide +kernel) (by decide +kernel) (by decide +kernel) hl hd))
      (order_pow (q := 254760293) (c := 36526404298931870833040793616641062448716784647210991473903342632154439764622) 1 56 pr_254760293 (by decide +kernel) (by decide +kernel) (by decide +kernel) hl hd)) (by decide +kernel)
end Go.Proofs.Ythaoebamnlmfpaa.Num
