/-
  Own text. What the landed package reckons: a root by halves of A and of the norm's root. Speaks of no program.
-/
import Derived.Test.YtoogmgckbalboaaDoorFp2rMath
namespace Go.Proofs.YtoogmgckbalboaaDoor.Fp2r
set_option linter.unusedVariables false
set_option linter.unusedSimpArgs false
open Go Go.RowKit Go.Proofs.YtoogmgckbalboaaDoor.Reg Go.Proofs.YtoogmgckbalboaaDoor.Base Go.Proofs.YtoogmgckbalboaaDoor.Limb Go.Proofs.YtoogmgckbalboaaDoor.Fp Go.Proofs.YtoogmgckbalboaaDoor.Fpr Go.Proofs.YtoogmgckbalboaaDoor.Fp2 Go.Proofs.YtoogmgckbalboaaDoor.Bits Go.Proofs.YtoogmgckbalboaaDoor.Num

/-- Half of p and 1. -/
def hfL : List Int := [15924587544893707606, 1105070755758604287, 12941209323636816658, 12843041017062132063, 2706051889235351147, 936899308823769933]
theorem hfL_nm : Nm 6 hfL := ⟨rfl, words_of _ (by decide)⟩
theorem hf_two : 2 * num hfL = PP + 1 := by decide +kernel
/-- Half of a number. -/
def hv (x : Int) : Int := x * num hfL
theorem hv_two (x : Int) : 2 * hv x % PP = x % PP := by
  have h : 2 * hv x = x + PP * x := by rw [hv, show 2 * (x * num hfL) = x * (2 * num hfL) by grind, hf_two]; grind
  rw [h, Int.add_mul_emod_self_left]
theorem hv_congr {x y : Int} (h : x % PP = y % PP) : hv x % PP = hv y % PP := mulm h rfl
/-- The inverse. -/
def iv (x : Int) : Int := pw x (PP - 2)
theorem iv_congr {x y : Int} (h : x % PP = y % PP) : iv x % PP = iv y % PP := pw_congr h _
theorem iv_mul {x : Int} (h : x % PP ≠ 0) : x * iv x % PP = 1 := pw_inverse h
/-- A number whose square is a square that is asked; 0 for what is none. -/
def rwd (x : Int) : List Int := if sq x = true then root x else Z6
def rx (x : Int) : Int := num (rwd x)
theorem rx_two {x : Int} (h : sq x = true) : rx x * rx x % PP = x % PP := by
  rw [rx, rwd, if_pos h]
  exact fe_inj (root_two' h)
/-- What rootOfHalf reckons. -/
def rh (h b : Int) : G := if sq h = true then (rx h, hv b * iv (rx h)) else (hv b * iv (rx (-h)), rx (-h))
theorem rx_ne {h : Int} (hs : sq h = true) (h0 : h % PP ≠ 0) : rx h % PP ≠ 0 := fun e => by
  have h1 := rx_two hs
  rw [Int.mul_emod, e] at h1
  exact h0 h1.symm
theorem sub_cg {x y x' y' : Int} (h : x % PP = x' % PP) (h' : y % PP = y' % PP) : (x - y) % PP = (x' - y') % PP := by rw [Int.sub_emod, h, h', ← Int.sub_emod]
theorem add_cg {x y x' y' : Int} (h : x % PP = x' % PP) (h' : y % PP = y' % PP) : (x + y) % PP = (x' + y') % PP := by rw [Int.add_emod, h, h', ← Int.add_emod]
/-- With h k = - (b / 2)^2, h not 0: x x - (b / (2 x))^2 is h + k, where x x is h. -/
theorem rh_aux {h k b x s : Int} (hk : (h * k + hv b * hv b) % PP = 0) (h0 : h % PP ≠ 0) (hx : x % PP ≠ 0) (hxx : x * x % PP = s * h % PP) (hs : s * s = 1) :
    (x * x - (hv b * iv x) * (hv b * iv x)) % PP = s * (h + k) % PP := by
  have hne : (x * x) % PP ≠ 0 := fun e => by
    rcases PP_split e with h1 | h1 <;> exact hx h1
  refine eq_of_sub ?_
  -- times x x it is 0
  have key : (x * x * (x * x - (hv b * iv x) * (hv b * iv x) - s * (h + k))) % PP = 0 := by
    have e1 := iv_mul hx
    have e2 : (x * iv x) * (x * iv x) % PP = 1 % PP := mulm (b := 1) (d := 1) e1 e1
    have e3 : (x * x * (x * x - (hv b * iv x) * (hv b * iv x) - s * (h + k))) = (x * x) * (x * x) - (hv b * hv b) * ((x * iv x) * (x * iv x)) - (x * x) * (s * (h + k)) := by grind
    rw [e3]
    have e4 : ((x * x) * (x * x) - (hv b * hv b) * ((x * iv x) * (x * iv x)) - (x * x) * (s * (h + k))) % PP = ((s * h) * (s * h) - (hv b * hv b) * 1 - (s * h) * (s * (h + k))) % PP :=
      sub_cg (sub_cg (mulm hxx hxx) (mulm rfl e2)) (mulm hxx rfl)
    rw [e4]
    have e5 : (s * h) * (s * h) - (hv b * hv b) * 1 - (s * h) * (s * (h + k)) = -(h * k + hv b * hv b) + (1 - s * s) * (h * k) := by grind
    rw [e5, hs, Int.sub_self, Int.zero_mul, Int.add_zero]
    exact neg_zero hk
  rcases PP_split key with h1 | h1
  · exact absurd h1 hne
  · exact h1
theorem two_iv {b x : Int} (hx : x % PP ≠ 0) : (x * (hv b * iv x) + hv b * iv x * x) % PP = b % PP := by
  have e1 := iv_mul hx
  rw [show x * (hv b * iv x) + hv b * iv x * x = (2 * hv b) * (x * iv x) by grind]
  have := mulm (hv_two b) (e1.trans (show (1 : Int) = 1 % PP from rfl))
  rwa [Int.mul_one] at this
theorem rh_root {h k b : Int} (hk : (h * k + hv b * hv b) % PP = 0) (h0 : h % PP ≠ 0) : Fp2.E2 (gm (rh h b) (rh h b)) (h + k, b) := by
  unfold rh
  split
  · next hs =>
    have hx := rx_ne hs h0
    refine ⟨?_, two_iv hx⟩
    have := rh_aux (s := 1) hk h0 hx (by rw [Int.one_mul]; exact rx_two hs) rfl
    rwa [Int.one_mul] at this
  · next hs =>
    have hs' : sq (-h) = true := by rw [sq_neg h0]; simpa using hs
    have h0' : (-h) % PP ≠ 0 := neg_ne h0
    have hx := rx_ne hs' h0'
    have := rh_aux (s := -1) hk h0 hx (by rw [rx_two hs']; congr 1; grind) (by decide)
    refine ⟨?_, ?_⟩
    · show (hv b * iv (rx (-h)) * (hv b * iv (rx (-h))) - rx (-h) * rx (-h)) % PP = (h + k) % PP
      have e : hv b * iv (rx (-h)) * (hv b * iv (rx (-h))) - rx (-h) * rx (-h) = -(rx (-h) * rx (-h) - hv b * iv (rx (-h)) * (hv b * iv (rx (-h)))) := by grind
      rw [e, neg_congr this]
      congr 1
      grind
    · show (hv b * iv (rx (-h)) * rx (-h) + rx (-h) * (hv b * iv (rx (-h)))) % PP = b % PP
      have := two_iv (b := b) hx
      rw [Int.add_comm]
      exact this
theorem rh_zero {h b : Int} (h0 : h % PP = 0) (hb : b % PP = 0) : Fp2.E2 (gm (rh h b) (rh h b)) (0, 0) := by
  have hs := sq_zero h0
  have h2 := rx_two hs
  have hz : rx h % PP = 0 := by
    have : rx h * rx h % PP = 0 := h2.trans h0
    rcases PP_split this with h1 | h1 <;> exact h1
  have hb2 : hv b % PP = 0 := (hv_congr (hb.trans (show (0 : Int) = 0 % PP from rfl))).trans (by rw [hv, Int.zero_mul]; rfl)
  have hz2 : Z2 (rh h b) := by
    rw [rh, if_pos hs]
    refine ⟨hz, ?_⟩
    show hv b * iv (rx h) % PP = 0
    rw [Int.mul_emod, hb2, Int.zero_mul]
    rfl
  exact gm_zl hz2
theorem sq_congr' {x y : Int} (h : x % PP = y % PP) : rx x = rx y := by rw [rx, rx, rwd, rwd, sq_congr h, root, root, pw, pw, ev_congr (pw_congr h _)]
theorem rh_congr {h h' b b' : Int} (e : h % PP = h' % PP) (e' : b % PP = b' % PP) : Fp2.E2 (rh h b) (rh h' b') := by
  unfold rh
  rw [sq_congr e, sq_congr' e, sq_congr' (neg_congr e)]
  split
  · exact ⟨rfl, mulm (hv_congr e') rfl⟩
  · exact ⟨mulm (hv_congr e') rfl, rfl⟩
/-- The halves. -/
def hA (p : G) : Int := hv (p.1 + rx (gnorm p))
def hB (p : G) : Int := hv (p.1 - rx (gnorm p))
theorem ne_two {x : Int} (h : 2 * x % PP = 0) : x % PP = 0 := by
  rcases PP_split h with h1 | h1
  · exact absurd h1 (by decide +kernel)
  · exact h1
theorem four_cancel {x y : Int} (h : 4 * x % PP = 4 * y % PP) : x % PP = y % PP := by
  refine eq_of_sub ?_
  have h1 := sub_of_eq h
  rw [show 4 * x - 4 * y = 2 * (2 * (x - y)) by grind] at h1
  exact ne_two (ne_two h1)
theorem halves {p : G} (h : gsq p = true) : (hA p * hB p + hv p.2 * hv p.2) % PP = 0 ∧ (hA p + hB p) % PP = p.1 % PP := by
  have hn := rx_two (x := gnorm p) h
  have e1 := hv_two (p.1 + rx (gnorm p))
  have e2 := hv_two (p.1 - rx (gnorm p))
  have e3 := hv_two p.2
  unfold hA hB
  generalize rx (gnorm p) = n at *
  generalize hv (p.1 + n) = s at *
  generalize hv (p.1 - n) = t at *
  generalize hv p.2 = b at *
  constructor
  · have h4 : 4 * (s * t + b * b) % PP = 4 * 0 % PP := by
      rw [show 4 * (s * t + b * b) = (2 * s) * (2 * t) + (2 * b) * (2 * b) by grind, Int.mul_zero]
      rw [add_cg (mulm e1 e2) (mulm e3 e3)]
      have : (p.1 + n) * (p.1 - n) + p.2 * p.2 = gnorm p - n * n := by unfold gnorm; grind
      rw [this]
      exact sub_of_eq hn.symm
    exact (four_cancel h4).trans rfl
  · have h4 : 4 * (s + t) % PP = 4 * p.1 % PP := by
      rw [show 4 * (s + t) = 2 * (2 * s + 2 * t) by grind, Int.mul_emod, add_cg e1 e2, ← Int.mul_emod]
      congr 1
      grind
    exact four_cancel h4
theorem root_A {p : G} (h : gsq p = true) (h0 : hA p % PP ≠ 0) : Fp2.E2 (gm (rh (hA p) p.2) (rh (hA p) p.2)) p := by
  obtain ⟨h1, h2⟩ := halves h
  exact (rh_root h1 h0).trans ⟨h2, rfl⟩
theorem root_B {p : G} (h : gsq p = true) (h0 : hB p % PP ≠ 0) : Fp2.E2 (gm (rh (hB p) p.2) (rh (hB p) p.2)) p := by
  obtain ⟨h1, h2⟩ := halves h
  rw [Int.mul_comm] at h1
  rw [Int.add_comm] at h2
  exact (rh_root h1 h0).trans ⟨h2, rfl⟩
/-- If the first half's root is none, the second's is one. -/
theorem root_AB {p : G} (h : gsq p = true) (hn : ¬ Fp2.E2 (gm (rh (hA p) p.2) (rh (hA p) p.2)) p) : Fp2.E2 (gm (rh (hB p) p.2) (rh (hB p) p.2)) p := by
  obtain ⟨h1, h2⟩ := halves h
  have h0 : hA p % PP = 0 := Decidable.byContradiction fun h0 => hn (root_A h h0)
  have hb : p.2 % PP = 0 := by
    rw [Int.add_emod, Int.mul_emod, h0, Int.zero_mul, Int.zero_emod, Int.zero_add, Int.emod_emod] at h1
    have h3 : hv p.2 % PP = 0 := by rcases PP_split h1 with h3 | h3 <;> exact h3
    rw [← hv_two, Int.mul_emod, h3, Int.mul_zero]
    rfl
  refine root_B h (fun hB0 => hn ?_)
  have hp1 : p.1 % PP = 0 := by rw [← h2, Int.add_emod, h0, hB0]; rfl
  exact (rh_zero h0 hb).trans ⟨hp1.symm, hb.symm⟩
theorem F2_F2 (p : G) : F2 (v2 (F2 p)) = F2 p := F2_eq (v2_F2 p)
theorem ev2_F2 (p : G) : ev2 (v2 (F2 p)) = ev2 p := ev2_congr (v2_F2 p)
end Go.Proofs.YtoogmgckbalboaaDoor.Fp2r
