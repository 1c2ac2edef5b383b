/-
  Own text. Layer 5: squares modulo p: their roots, which are one number and its opposite; of these just one is even. Speaks of no landed body.
-/
import Derived.Test.YtpnpiiocpjbffaaDoorMFpN
namespace Go.Proofs.YtpnpiiocpjbffaaDoor.Fpr
set_option linter.unusedVariables false
open Go Go.RowKit Go.Proofs.YtpnpiiocpjbffaaDoor.Reg Go.Proofs.YtpnpiiocpjbffaaDoor.Base Go.Proofs.YtpnpiiocpjbffaaDoor.Limb Go.Proofs.YtpnpiiocpjbffaaDoor.Num Go.Proofs.YtpnpiiocpjbffaaDoor.Fp

/-- (p + 1) / 4, and (p - 1) / 2. -/
def QQ : Int := 1000602388805416848354447456433976039139220704984751971333014534031007912622709466110671907282253916009473568139947
def HH : Int := 2001204777610833696708894912867952078278441409969503942666029068062015825245418932221343814564507832018947136279893
def qL : List Int := [17185665809301629611, 552535377879302143, 15693976698673184137, 15644892545385841839, 10576397981472451381, 468449654411884966]
theorem qL_num : num qL = QQ := by decide +kernel
theorem qL_words : Words qL := words_of _ (by decide)
theorem QQ_ : QQ + QQ = 1 + HH ∧ HH + HH = PP - 1 ∧ 0 ≤ QQ ∧ 0 ≤ HH ∧ HH.toNat % 2 = 1 := by decide +kernel
theorem PP_odd : PP % 2 = 1 := by decide +kernel

theorem pw_mul (x y e : Int) : pw (x * y) e = pw x e * pw y e := by rw [pw, pw, pw, Int.mul_pow]
theorem neg_odd : ∀ n : Nat, n % 2 = 1 → (-1 : Int) ^ n = -1
  | 0, h => by omega
  | 1, _ => by rw [Int.pow_one]
  | n + 2, h => by rw [Int.pow_succ, Int.pow_succ, neg_odd n (by omega)]; rfl
theorem pw_neg (x : Int) : pw (-x) HH = -pw x HH := by
  have e : -x = -1 * x := by omega
  rw [e, pw_mul]
  have h : pw (-1) HH = -1 := neg_odd _ QQ_.2.2.2.2
  rw [h]
  omega
theorem root_two (x : Int) : pw x QQ * pw x QQ = x * pw x HH := by
  have q := QQ_
  rw [← pw_add q.2.2.1 q.2.2.1, q.1, pw_add (by decide) q.2.2.2.1, pw_one]
theorem half_two (x : Int) : pw x HH * pw x HH = pw x (PP - 1) := by
  have q := QQ_
  rw [← pw_add q.2.2.2.1 q.2.2.2.1, q.2.1]
theorem eq_of_sub {x y : Int} (h : (x - y) % PP = 0) : x % PP = y % PP := (Int.emod_eq_emod_iff_emod_sub_eq_zero).2 h
theorem sub_of_eq {x y : Int} (h : x % PP = y % PP) : (x - y) % PP = 0 := (Int.emod_eq_emod_iff_emod_sub_eq_zero).1 h
theorem half_of {x : Int} (hx : x % PP ≠ 0) : pw x HH % PP = 1 ∨ pw x HH % PP = PP - 1 := by
  have h := pw_fermat hx
  rw [← half_two] at h
  obtain ⟨e, he⟩ : ∃ e, pw x HH = e := ⟨_, rfl⟩
  rw [he] at h ⊢
  have h1 : (1 : Int) % PP = 1 := by decide +kernel
  have h2 : ((e - 1) * (e + 1)) % PP = 0 := by
    have h3 : (e - 1) * (e + 1) = e * e - 1 := by grind
    rw [h3]
    exact sub_of_eq (by rw [h, h1])
  rcases PP_split h2 with h3 | h3
  · left
    rw [eq_of_sub h3, h1]
  · right
    have h4 : (e - (-1)) % PP = 0 := by rw [Int.sub_neg]; exact h3
    rw [eq_of_sub h4]
    decide +kernel
/-- A number is a square: it is 0, or its power of (p - 1) / 2 is 1. -/
def sq (x : Int) : Bool := decide (x % PP = 0 ∨ pw x HH % PP = 1)
theorem sq_zero {x : Int} (h : x % PP = 0) : sq x = true := decide_eq_true (.inl h)
theorem sq_congr {x y : Int} (h : x % PP = y % PP) : sq x = sq y := by
  unfold sq
  rw [h, show pw x HH % PP = pw y HH % PP from pw_congr h _]
theorem sq_fe (x : Int) : sq (num (fe x)) = sq x := sq_congr (by rw [num_fe, Int.emod_emod])
theorem sq_iff (x : Int) : fe (pw x QQ * pw x QQ) = fe x ↔ sq x = true := by
  rw [root_two, sq, decide_eq_true_iff]
  constructor
  · intro h
    have h1 : (x * (pw x HH - 1)) % PP = 0 := by
      rw [Int.mul_sub, Int.mul_one]
      exact sub_of_eq (fe_inj h)
    rcases PP_split h1 with h2 | h2
    · exact .inl h2
    · exact .inr ((eq_of_sub h2).trans (by decide +kernel))
  · rintro (h | h)
    · exact fe_congr (by rw [Int.mul_emod, h, Int.zero_mul, Int.zero_emod])
    · exact fe_congr (by rw [Int.mul_emod, h, Int.mul_one, Int.emod_emod])
theorem sq_ite (x : Int) : (decide (fe (num (fe (pw x QQ)) * num (fe (pw x QQ))) = fe x)) = sq x := by
  rw [fe_mull, fe_mulr]
  by_cases h : sq x = true
  · rw [decide_eq_true ((sq_iff x).2 h), h]
  · rw [decide_eq_false (fun e => h ((sq_iff x).1 e))]
    simpa using h
theorem sq_square (a : Int) : sq (a * a) = true := by
  by_cases h : a % PP = 0
  · exact sq_zero (by rw [Int.mul_emod, h, Int.zero_mul, Int.zero_emod])
  · refine decide_eq_true (.inr ?_)
    rw [pw_mul, half_two, pw_fermat h]
theorem sq_neg {x : Int} (hx : x % PP ≠ 0) : sq (-x) = !sq x := by
  have hn : (-x) % PP ≠ 0 := fun h => hx (by
    have := PP_split (x := -1) (y := x) (by rw [show -1 * x = -x by omega]; exact h)
    rcases this with h | h
    · exact absurd h (by decide +kernel)
    · exact h)
  have hp : (1 : Int) ≠ PP - 1 ∧ (-(1 : Int)) % PP = PP - 1 ∧ (-(PP - 1)) % PP = 1 := by decide +kernel
  have en : ∀ e : Int, (-e) % PP = (-(e % PP)) % PP := fun e => by rw [neg_out, Int.add_mul_emod_self_left]
  rcases half_of hx with h | h
  · have h1 : sq x = true := decide_eq_true (.inr h)
    have h2 : sq (-x) = false := decide_eq_false (by
      rintro (h3 | h3)
      · exact hn h3
      · rw [pw_neg, en, h, hp.2.1] at h3
        exact hp.1 h3.symm)
    rw [h1, h2]; rfl
  · have h1 : sq x = false := decide_eq_false (by
      rintro (h3 | h3)
      · exact hx h3
      · rw [h] at h3
        exact hp.1 h3.symm)
    have h2 : sq (-x) = true := decide_eq_true (.inr (by rw [pw_neg, en, h, hp.2.2]))
    rw [h1, h2]; rfl
theorem sq_mul {x y : Int} (h : (x * y) % PP ≠ 0) : sq (x * y) = (sq x == sq y) := by
  have hx : x % PP ≠ 0 := fun e => h (by rw [Int.mul_emod, e, Int.zero_mul, Int.zero_emod])
  have hy : y % PP ≠ 0 := fun e => h (by rw [Int.mul_emod, e, Int.mul_zero, Int.zero_emod])
  have key : ∀ {z : Int}, z % PP ≠ 0 → sq z = decide (pw z HH % PP = 1) := fun {z} hz => by
    unfold sq
    by_cases e : pw z HH % PP = 1
    · rw [decide_eq_true e, decide_eq_true (.inr e)]
    · rw [decide_eq_false e, decide_eq_false (fun e' => e'.elim hz e)]
  rw [key h, key hx, key hy, pw_mul, Int.mul_emod]
  have hp : (1 : Int) ≠ PP - 1 ∧ 1 * 1 % PP = 1 ∧ (1 * (PP - 1)) % PP = PP - 1 ∧ ((PP - 1) * 1) % PP = PP - 1 ∧ ((PP - 1) * (PP - 1)) % PP = 1 := by decide +kernel
  have h1 : decide ((1 : Int) = 1) = true := rfl
  have h2 : decide (PP - 1 = (1 : Int)) = false := decide_eq_false (fun e => hp.1 e.symm)
  rcases half_of hx with e | e <;> rcases half_of hy with f | f <;> rw [e, f]
  · rw [hp.2.1]; rfl
  · rw [hp.2.2.1, h2]; rfl
  · rw [hp.2.2.2.1, h2]; rfl
  · rw [hp.2.2.2.2, h2]; rfl
/-- Of a number and its opposite that which is even. -/
def ev (x : Int) : List Int := if (x % PP) % 2 = 0 then fe x else fe (-x)
theorem neg_mod {x : Int} (h : x % PP ≠ 0) : (-x) % PP = PP - x % PP := by
  rw [neg_out (y := x) |> fun e => show (-x) % PP = (-(x % PP)) % PP by rw [e, Int.add_mul_emod_self_left]]
  have b := fe_mod x
  rw [show -(x % PP) = PP - x % PP + PP * (-1) by omega, Int.add_mul_emod_self_left]
  exact Int.emod_eq_of_lt (by omega) (by omega)
theorem neg_zero {x : Int} (h : x % PP = 0) : (-x) % PP = 0 := by
  rw [neg_out (y := x) |> fun e => show (-x) % PP = (-(x % PP)) % PP by rw [e, Int.add_mul_emod_self_left], h]; rfl
theorem ev_congr {x y : Int} (h : x % PP = y % PP) : ev x = ev y := by
  unfold ev
  rw [h, fe_congr h, fe_congr (show (-x) % PP = (-y) % PP by
    by_cases e : x % PP = 0
    · rw [neg_zero e, neg_zero (h ▸ e)]
    · rw [neg_mod e, neg_mod (h ▸ e), h])]
theorem ev_neg (x : Int) : ev (-x) = ev x := by
  unfold ev
  rw [Int.neg_neg]
  by_cases e : x % PP = 0
  · rw [neg_zero e, e, if_pos (by rfl), if_pos (by rfl)]
    exact fe_congr (by rw [neg_zero e, e])
  · have := PP_odd
    have b := neg_mod e
    by_cases h : x % PP % 2 = 0
    · rw [if_pos h, if_neg (by omega)]
    · rw [if_neg h, if_pos (by omega)]
theorem ev_even (x : Int) : num (ev x) % 2 = 0 := by
  unfold ev
  by_cases h : x % PP % 2 = 0
  · rw [if_pos h, num_fe, h]
  · have e : x % PP ≠ 0 := fun e => h (by rw [e]; rfl)
    rw [if_neg h, num_fe, neg_mod e]
    have := PP_odd
    omega
theorem ev_or (x : Int) : ev x = fe x ∨ ev x = fe (-x) := by
  unfold ev
  by_cases h : x % PP % 2 = 0
  · exact .inl (if_pos h)
  · exact .inr (if_neg h)
theorem ev_len (x : Int) : (ev x).length = 6 := by rcases ev_or x with h | h <;> rw [h] <;> exact fe_len _
theorem ev_words (x : Int) : Words (ev x) := by rcases ev_or x with h | h <;> rw [h] <;> exact fe_words _
theorem ev_two (x : Int) : fe (num (ev x) * num (ev x)) = fe (x * x) := by
  rcases ev_or x with h | h <;> rw [h, fe_mull, fe_mulr]
  rw [show -x * -x = x * x by grind]
/-- The even root of a square. -/
def root (x : Int) : List Int := ev (pw x QQ)
theorem root_fe (x : Int) : root (num (fe x)) = root x := ev_congr (pw_congr (by rw [num_fe, Int.emod_emod]) _)
theorem root_sq (a : Int) : root (a * a) = ev a := by
  have h := (sq_iff (a * a)).2 (sq_square a)
  obtain ⟨r, hr⟩ : ∃ r, pw (a * a) QQ = r := ⟨_, rfl⟩
  unfold root
  rw [hr] at h ⊢
  have h1 : ((r - a) * (r + a)) % PP = 0 := by
    rw [show (r - a) * (r + a) = r * r - a * a by grind]
    exact sub_of_eq (fe_inj h)
  rcases PP_split h1 with h2 | h2
  · exact ev_congr (eq_of_sub h2)
  · rw [← ev_neg a]
    exact ev_congr (eq_of_sub (by rw [Int.sub_neg]; exact h2))
theorem root_two' {x : Int} (h : sq x = true) : fe (num (root x) * num (root x)) = fe x := by rw [root, ev_two]; exact (sq_iff x).2 h
theorem root_zero {x : Int} (h : x % PP = 0) : root x = fe 0 := by
  have e : pw x QQ % PP = 0 := pw_nought h (by decide +kernel)
  rw [root, ev, e, if_pos (by rfl)]
  exact fe_congr (by rw [e]; rfl)
theorem ev_fe (x : Int) : (if num (fe x) % 2 = 0 then fe x else fe (-num (fe x))) = ev x := by rw [num_fe, fe_congr (show (-(x % PP)) % PP = (-x) % PP by rw [neg_out, Int.add_mul_emod_self_left]), ev]
end Go.Proofs.YtpnpiiocpjbffaaDoor.Fpr

/-
  Own text. Layer 5: words for its walks.
-/
namespace Go.Proofs.YtpnpiiocpjbffaaDoor.Fpr
set_option linter.unusedVariables false
open Go Go.RowKit Go.Proofs.YtpnpiiocpjbffaaDoor.Reg Go.Proofs.YtpnpiiocpjbffaaDoor.Base Go.Proofs.YtpnpiiocpjbffaaDoor.Limb Go.Proofs.YtpnpiiocpjbffaaDoor.Bits Go.Proofs.YtpnpiiocpjbffaaDoor.Fp

theorem eqn6' (l m : List Int) (hl : l.length = 6) (hm : m.length = 6) : ∀ w : World, (Op.equalIn 10000 24 (.agg (vals .u64 l)) (.agg (vals .u64 m))).run Tryd.prog w = .ok (decide (l = m)) w := fun w => by
  rw [equalIn_vals (d := 9998) Tryd.underlying24 Tryd.underlying22 (by kernel_rfl) (by kernel_rfl) hl hm]
/-- The comparison at the end of a root: whether the number is a square. -/
theorem eqsq (x : Int) : ∀ w : World, (Op.equalIn 10000 24 (.agg (vals .u64 (fe (num (fe (pw x QQ)) * num (fe (pw x QQ)))))) (.agg (vals .u64 (fe x)))).run Tryd.prog w = .ok (sq x) w := fun w => by
  rw [eqn6' _ _ (fe_len _) (fe_len _), sq_ite]
theorem nth_two {l : List Int} (hl : l.length = 6) : nth l 0 % 2 = num l % 2 := by
  match l, hl with
  | [a, b, c, d, e, f], _ =>
    simp [num, low, nth, wp]
    omega
/-- A number is greater than its opposite. -/
def big (x : Int) : Bool := decide (num (fe (-x)) < num (fe x))
theorem cmp_big (x : Int) : ∃ z : Int, cmpL (fe x) (fe (-x)) = z ∧ decide (0 < z) = big x := by
  refine ⟨_, rfl, ?_⟩
  unfold cmpL big
  by_cases h1 : num (fe x) < num (fe (-x))
  · rw [if_pos h1, decide_eq_false (by decide), decide_eq_false (by omega)]
  · rw [if_neg h1]
    by_cases h2 : num (fe x) = num (fe (-x))
    · rw [if_pos h2, decide_eq_false (by decide), decide_eq_false (by omega)]
    · rw [if_neg h2, decide_eq_true (by decide), decide_eq_true (by omega)]
/-- A number's lowest bit. -/
def sgn (x : Int) : Int := x % PP % 2
theorem sgn_nth (x : Int) : nth (fe x) 0 % 2 = sgn x := by rw [nth_two (fe_len _), num_fe, sgn]
theorem sgn_or (x : Int) : sgn x = 0 ∨ sgn x = 1 := by unfold sgn; omega
theorem sgn_fe (x : Int) : sgn (num (fe x)) = sgn x := by rw [sgn, num_fe, Int.emod_emod, sgn]
theorem ev_sgn (x : Int) : ev x = if sgn x = 0 then fe x else fe (-x) := rfl
end Go.Proofs.YtpnpiiocpjbffaaDoor.Fpr

/-
  Own text. Layer 5: what its statements ask of numbers modulo p. Speaks of no landed body.
-/
namespace Go.Proofs.YtpnpiiocpjbffaaDoor.Fpr
set_option linter.unusedVariables false
open Go Go.RowKit Go.Proofs.YtpnpiiocpjbffaaDoor.Reg Go.Proofs.YtpnpiiocpjbffaaDoor.Base Go.Proofs.YtpnpiiocpjbffaaDoor.Limb Go.Proofs.YtpnpiiocpjbffaaDoor.Bits Go.Proofs.YtpnpiiocpjbffaaDoor.Fp

theorem neg_fe (x : Int) : fe (-num (fe x)) = fe (-x) := fe_neg x
theorem big_fe (x : Int) : big (num (fe x)) = big x := by rw [big, neg_fe, fe_num, big]
theorem num_neg {x : Int} (h : x % PP ≠ 0) : num (fe (-x)) = PP - num (fe x) := by rw [num_fe, num_fe, neg_mod h]
theorem neg_ne {x : Int} (h : x % PP ≠ 0) : (-x) % PP ≠ 0 := by
  rw [neg_mod h]
  have := (fe_mod x).2
  omega
theorem big_neg {x : Int} (h : x % PP ≠ 0) : big (-x) = !big x := by
  have h1 := num_neg h
  have h2 := PP_odd
  unfold big
  rw [Int.neg_neg]
  by_cases e : num (fe (-x)) < num (fe x)
  · rw [decide_eq_true e, decide_eq_false (by omega)]; rfl
  · rw [decide_eq_false e, decide_eq_true (by omega)]; rfl
theorem big_zero {x : Int} (h : x % PP = 0) : big x = false := by
  unfold big
  rw [num_fe, num_fe, neg_zero h, h]
  rfl
theorem sgn_zero {x : Int} (h : x % PP = 0) : sgn x = 0 := by rw [sgn, h]; rfl
theorem sgn_neg {x : Int} (h : x % PP ≠ 0) : sgn (-x) = 1 - sgn x := by
  have := PP_odd
  rw [sgn, sgn, neg_mod h]
  omega
theorem two_sum (x : Int) : addC (fe x) (fe x) = 0 ∧ num (addL (fe x) (fe x)) = num (fe x) + num (fe x) ∧ Words (addL (fe x) (fe x)) ∧ (addL (fe x) (fe x)).length = 6 := by
  have b := fe_mod x
  have hn := num_fe x
  have hp := PP_lt
  have e : addL (fe x) (fe x) = wd 6 (num (fe x) + num (fe x)) := by rw [addL, fe_len, Nat.max_self]
  refine ⟨?_, ?_, ?_, ?_⟩
  · rw [addC, fe_len, Nat.max_self]
    exact Int.ediv_eq_zero_of_lt (by omega) (by omega)
  · rw [e, num_wd_of (by omega) (by omega)]
  · rw [e]; exact wd_words _ _
  · rw [e]; exact wd_len _ _
theorem cmp_over {x : Int} (h : x % PP ≠ 0) : cmpL (addL (fe x) (fe x)) pL = if big x = true then 1 else -1 := by
  have h1 := num_neg h
  have h2 := PP_odd
  have h3 := (two_sum x).2.1
  unfold cmpL
  rw [h3, num_pL]
  by_cases e : num (fe (-x)) < num (fe x)
  · rw [if_pos (show big x = true from decide_eq_true e), if_neg (by omega), if_neg (by omega)]
  · rw [if_neg (show ¬ big x = true by rw [big, decide_eq_false e]; decide), if_pos (by omega)]
theorem fe_ne_neg {x : Int} (h : sgn x = 1) : fe (-x) ≠ fe x := fun e => by
  have h0 : x % PP ≠ 0 := fun e => by rw [sgn_zero e] at h; cases h
  have h1 := sgn_neg h0
  have h2 := fe_inj e
  rw [sgn, h2, ← sgn, h] at h1
  cases h1
/-- What the statements' head asks. -/
theorem aw_four : sq (num [4, 0, 0, 0, 0, 0]) = true ∧ root (num [4, 0, 0, 0, 0, 0]) = [2, 0, 0, 0, 0, 0] := by
  have e : num [4, 0, 0, 0, 0, 0] = 2 * 2 := by decide +kernel
  rw [e]
  exact ⟨sq_square 2, by rw [root_sq]; decide +kernel⟩
theorem aw_minus : sq (num (fe (-(num [1, 0, 0, 0, 0, 0])))) = false := by
  have e : num [1, 0, 0, 0, 0, 0] = 1 := by decide +kernel
  have h1 : sq 1 = true := sq_square 1
  rw [e, sq_fe, sq_neg (by decide +kernel), h1]
  rfl
theorem aw_zero : sq (num Z6) = true ∧ root (num Z6) = Z6 := by
  have e : num Z6 = 0 := num_Z6
  rw [e]
  exact ⟨sq_zero rfl, by rw [root_zero rfl]; decide +kernel⟩
theorem aw_rest : sgn (num [3, 0, 0, 0, 0, 0]) = 1 ∧ big (num [1, 0, 0, 0, 0, 0]) = false ∧ big (num (fe (-(num [1, 0, 0, 0, 0, 0])))) = true := by decide +kernel
theorem w4 : Words [4, 0, 0, 0, 0, 0] := words_of _ (by decide)
theorem w3 : Words [3, 0, 0, 0, 0, 0] := words_of _ (by decide)
theorem w1 : Words [1, 0, 0, 0, 0, 0] := words_of _ (by decide)
theorem wZ : Words Z6 := words_of _ (by decide)
end Go.Proofs.YtpnpiiocpjbffaaDoor.Fpr

