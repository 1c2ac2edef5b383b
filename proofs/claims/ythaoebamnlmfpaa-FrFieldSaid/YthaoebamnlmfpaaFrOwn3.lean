/-
  Own text. The contracts of layer 6's landed package, on: bitLen, digitAt, the closure of Windows.
-/
import Derived.Test.YthaoebamnlmfpaaFrOwn2
import Derived.Test.YthaoebamnlmfpaaBitsB
import Derived.Test.YthaoebamnlmfpaaLimbOwnC
import Derived.Test.YthaoebamnlmfpaaFrDig
namespace Go.Proofs.Ythaoebamnlmfpaa.Fr
set_option linter.unusedVariables false
set_option linter.unusedSimpArgs false
open Go Go.RowKit Go.Proofs.Ythaoebamnlmfpaa.Num Go.Proofs.Ythaoebamnlmfpaa.Reg Go.Proofs.Ythaoebamnlmfpaa.Base Go.Proofs.Ythaoebamnlmfpaa.Limb Go.Proofs.Ythaoebamnlmfpaa.Bits

/-- How many bits a number has. -/
def Bl (v : Int) (L : Nat) : Prop := (v = 0 ∧ L = 0) ∨ (0 < L ∧ tp (L - 1) ≤ v ∧ v < tp L)
theorem bl_top {v x b : Int} {i L : Nat} (hb0 : 0 ≤ b) (hb : b < wp i) (hv : v = b + wp i * x) (hx0 : 0 < x) (hx1 : x ≤ 18446744073709551615) (hL : L = 64 * i + blen x) : Bl v L ∧ 64 * i < L ∧ L ≤ 64 * (i + 1) := by
  obtain ⟨s, h1, h2, h3, h4⟩ := blen_spec hx0 hx1
  have hw := wp_pos i
  have hp := tp_pos s
  have hl : tp (blen x) * 2 ^ s = 18446744073709551616 := by
    show tp (blen x) * tp s = _
    rw [← tp_add, h1]
    rfl
  have hl' : 9223372036854775808 = tp (blen x - 1) * 2 ^ s := by
    show _ = tp (blen x - 1) * tp s
    rw [← tp_add, show blen x - 1 + s = 63 by omega]
    rfl
  have hpos : (0 : Int) < 2 ^ s := hp
  have hu : x < tp (blen x) := by
    rcases Int.lt_or_le x (tp (blen x)) with h | h
    · exact h
    · have := Int.mul_le_mul_of_nonneg_right h (Int.le_of_lt hpos)
      omega
  have hd : tp (blen x - 1) ≤ x := by
    rcases Int.lt_or_le x (tp (blen x - 1)) with h | h
    · have := Int.mul_lt_mul_of_pos_right h hpos
      omega
    · exact h
  have e1 : tp L = wp i * tp (blen x) := by rw [hL, tp_add, tp_wp]
  have e2 : tp (L - 1) = wp i * tp (blen x - 1) := by rw [← tp_wp, ← tp_add]; congr 1; omega
  refine ⟨.inr ⟨by omega, ?_, ?_⟩, by omega, by omega⟩
  · rw [e2, hv]
    have := Int.mul_le_mul_of_nonneg_left hd (Int.le_of_lt hw)
    omega
  · rw [e1, hv]
    have := Int.mul_le_mul_of_nonneg_left (show x + 1 ≤ tp (blen x) by omega) (Int.le_of_lt hw)
    rw [Int.mul_add, Int.mul_one] at this
    omega
theorem emod_pow_of {a b m c : Int} (h : a = b + m * c) : a % m = b % m := by rw [h, Int.add_mul_emod_self_left]
theorem dig_word {l : List Int} (hw : Words l) {q s W : Nat} (hs : s < 64) (hW : W ≤ 8) {x y : Int} (hx : nth l q = x) (hy : nth l (q + 1) = y) : (x / 2 ^ s + y * 2 ^ (64 - s) % 18446744073709551616) % 2 ^ W = num l / tp (64 * q + s) % 2 ^ W := by
  have h1 := num_word l hw q
  have h2 := num_word l hw (q + 1)
  rw [hx] at h1
  rw [hy, wp_succ, ← div_div (wp_pos q)] at h2
  rw [tp_add, tp_wp, ← div_div (wp_pos q)]
  obtain ⟨v, hv⟩ : ∃ v, num l / wp q = v := ⟨_, rfl⟩
  rw [hv] at h1 h2 ⊢
  obtain ⟨t, ht⟩ : ∃ t, 64 - s = t := ⟨_, rfl⟩
  obtain ⟨z, hz⟩ : ∃ z, v / 18446744073709551616 / 18446744073709551616 = z := ⟨_, rfl⟩
  have e0 : v = x + 18446744073709551616 * (y + 18446744073709551616 * z) := by omega
  have e64 : (18446744073709551616 : Int) = tp s * tp t := by rw [← tp_add, show s + t = 64 by omega]; rfl
  have eW : (18446744073709551616 : Int) = tp W * tp (64 - W) := by rw [← tp_add, show W + (64 - W) = 64 by omega]; rfl
  have b2 := Int.emod_nonneg x (Int.ne_of_gt (tp_pos s))
  have b3 := Int.emod_lt_of_pos x (tp_pos s)
  have e2 := Int.mul_ediv_add_emod x (tp s)
  have e3 : x % tp s + tp s * (x / tp s + tp t * (y + 18446744073709551616 * z)) = v := by
    rw [e0]
    obtain ⟨r, hr⟩ : ∃ r, x % tp s = r := ⟨_, rfl⟩
    obtain ⟨u, hu⟩ : ∃ u, x / tp s = u := ⟨_, rfl⟩
    rw [hr, hu] at e2 ⊢
    have : tp s * (u + tp t * (y + 18446744073709551616 * z)) = tp s * u + tp s * tp t * (y + 18446744073709551616 * z) := by grind
    rw [this, ← e64]
    omega
  rw [(split_of b2 b3 e3).2, ht]
  have e4 := Int.mul_ediv_add_emod (y * tp t) 18446744073709551616
  show (x / tp s + y * tp t % 18446744073709551616) % tp W = (x / tp s + tp t * (y + 18446744073709551616 * z)) % tp W
  symm
  apply emod_pow_of (c := tp (64 - W) * (y * tp t / 18446744073709551616 + tp t * z))
  obtain ⟨k, hk⟩ : ∃ k, y * tp t / 18446744073709551616 = k := ⟨_, rfl⟩
  obtain ⟨r, hr⟩ : ∃ r, y * tp t % 18446744073709551616 = r := ⟨_, rfl⟩
  rw [hk, hr] at e4
  rw [hr, hk, show tp W * (tp (64 - W) * (k + tp t * z)) = tp W * tp (64 - W) * (k + tp t * z) by grind, ← eW]
  grind

set_option maxRecDepth 100000 in
set_option maxHeartbeats 2000000 in
theorem bitLen_c (A : Option Addr) (n c : Nat) (l : List Int) (B : Nat) (w : World) (hr : Rd w B A n .u64 l) (hwl : Words l) (hn : n ≤ 10000) : Calls Try.prog 49 #[.slice A n c] w fun e w' => ∃ L : Nat, e = .returned (.int .i64 (L : Int)) ∧ Bl (num l) L ∧ L ≤ 64 * n ∧ w = w' := by
  have HW : Keep (Words l) := ⟨hwl⟩
  have HL : Keep _ := ⟨hr.len⟩
  have H0 : Keep (low l n = num l) := ⟨by rw [low_num (by rw [hr.len]; omega)]⟩
  clear hwl
  go_enter Try.func49, Try.ntmps49
  go_wp2
  go_loopg [3] n (fun (gk : Nat) vi wr => gk ≤ n ∧ vi = .int .i64 ((gk : Int) - 1) ∧ Keep (low l gk = num l) ∧ w = wr)
  case atStart => exact ⟨Nat.le_refl _, by go_num, H0, rfl⟩
  case round =>
    obtain ⟨hk, rfl, HI, rfl⟩ := hrel
    rcases gk with _ | i
    · go_wp2
      go_ret
      exact ⟨0, rfl, .inl ⟨HI.out.symm, rfl⟩, Nat.zero_le _, rfl⟩
    · have e1 : ((i + 1 : Nat) : Int) - 1 = (i : Int) := by omega
      rw [e1]
      clear e1
      obtain ⟨b1, o1, rfl, hlb1, hc1⟩ := hr.at_ (by omega)
      have hcell := hc1 i (by omega)
      obtain ⟨x, hx⟩ : ∃ x, nth l i = x := ⟨_, rfl⟩
      have bx : 0 ≤ x ∧ x ≤ 18446744073709551615 := hx ▸ HW.out i
      have hlow : low l (i + 1) = low l i + wp i * x := by rw [low_succ, hx]
      have HLO : Keep _ := ⟨hlow⟩
      rw [hx] at hcell
      clear hc1 hlow hx
      by_cases h0 : x = 0
      · subst h0
        have HI2 : Keep (low l i = num l) := ⟨by have h1 := HI.out; rw [HLO.out, Int.mul_zero, Int.add_zero] at h1; exact h1⟩
        go_wp2
        go_roundg i
        case measure => omega
        case rel => exact ⟨by omega, by go_num, HI2, rfl⟩
      · have hne : (x != 0) = true := by rw [bne_iff_ne]; exact h0
        obtain ⟨L, hL⟩ : ∃ L : Nat, 64 * i + blen x = L := ⟨_, rfl⟩
        have hLi : (i : Int) * 64 + (blen x : Int) = (L : Int) := by omega
        obtain ⟨q, hq⟩ : ∃ q, blen x = q := ⟨_, rfl⟩
        have HB : Keep (Bl (num l) L ∧ 64 * i < L ∧ L ≤ 64 * (i + 1)) := ⟨bl_top (low_bounds HW.out i).1 (low_bounds HW.out i).2 (by rw [← HI.out, HLO.out]) (by omega) bx.2 hL.symm⟩
        have hLb := HB.out.2.2
        have P1 : Keep (∀ y : World, _) := ⟨fun y => len64_c x bx.1 bx.2 y⟩
        rw [hq] at P1 hLi
        clear hL hq
        go_wp2_with (go_at_call 62; refine (P1.out _).mono ?_; rintro e w' ⟨rfl, rfl⟩)
        go_ret
        exact ⟨L, rfl, HB.out.1, by have := HB.out.2.2; omega, rfl⟩

set_option maxRecDepth 100000 in
set_option maxHeartbeats 2000000 in
theorem nextW_up (d cy H : Int) (hd0 : 0 ≤ d) (hd1 : d < 2 * H) (hc0 : 0 ≤ cy) (hc1 : cy ≤ 1) (hH0 : 2 ≤ H) (hH1 : H ≤ 128) (hh : H < d + cy) (g g' : Nat) (w : World) (hne : g ≠ g') (hc : Has w g 3 (vals .i64 [cy])) (hB : Has w g' 3 (vals .i64 [2 * H])) :
    Calls Try.prog 48 #[.int .i64 d, .pointer (some ⟨g, 0, none⟩), .pointer (some ⟨g', 0, none⟩)] w fun e w' => e = .returned (.int .i64 (d + cy - 2 * H)) ∧ Has w' g 3 (vals .i64 [1]) ∧ (∀ g1 t1 cs1, Has w g1 t1 cs1 → g1 ≠ g → Has w' g1 t1 cs1) ∧ Below g w w' := by
  obtain ⟨M, hM⟩ : ∃ M, 2 * H = M := ⟨_, rfl⟩
  have hM2 : M.tdiv 2 = H := by rw [← hM, Int.tdiv_eq_ediv_of_nonneg (by omega)]; omega
  obtain ⟨u, hu⟩ : ∃ u, d + cy = u := ⟨_, rfl⟩
  rw [hM] at hB ⊢
  rw [hu] at hh ⊢
  have c1 := hc.val (i := 0) (by simp)
  have c2 := hB.val (i := 0) (by simp)
  have z1 := hc.frozen 0
  have k4 := hc.set_ 0 (.int .i64 0)
  have c3 := k4.cell 0
  have z3 := k4.frozen 0
  obtain ⟨z, hz⟩ : ∃ z, u - M = z := ⟨_, rfl⟩
  have h4 := k4.set_ 0 (.int .i64 1)
  have c5 := (hB.far (p := ⟨g, 0, none⟩) (fun h => hne h.symm) (.int .i64 0)).val (i := 0) (by simp)
  have h5 : ∀ g1 t1 cs1, Has w g1 t1 cs1 → g1 ≠ g → Has ((w.setCell ⟨g, 0, none⟩ (.int .i64 0)).setCell ⟨g, 0, none⟩ (.int .i64 1)) g1 t1 cs1 := fun g1 t1 cs1 h hne => (h.far hne _).far hne _
  have h6 : Below g w ((w.setCell ⟨g, 0, none⟩ (.int .i64 0)).setCell ⟨g, 0, none⟩ (.int .i64 1)) := ((Below.refl g w).setCell (p := ⟨g, 0, none⟩) (Nat.le_refl g) _).setCell (p := ⟨g, 0, none⟩) (Nat.le_refl g) _
  rw [hz]
  have hzb : -256 ≤ z ∧ z ≤ 256 := by omega
  have H5 : Keep _ := ⟨h5⟩
  have hH2 : M ≤ 256 := by omega
  have hu2 : 0 ≤ u ∧ u ≤ 256 := by omega
  clear hc hB h5 k4 hM
  simp only [nth, List.getD_cons_zero, List.getElem?_toArray, List.getElem?_cons_zero] at c1 c2 c5
  go_enter Try.func48, Try.ntmps48
  go_wp2
  go_ret
  exact ⟨rfl, h4, H5.out, h6⟩

set_option maxRecDepth 100000 in
set_option maxHeartbeats 2000000 in
theorem nextW_no (d cy H : Int) (hd0 : 0 ≤ d) (hd1 : d < 2 * H) (hc0 : 0 ≤ cy) (hc1 : cy ≤ 1) (hH0 : 2 ≤ H) (hH1 : H ≤ 128) (hh : ¬ H < d + cy) (g g' : Nat) (w : World) (hne : g ≠ g') (hc : Has w g 3 (vals .i64 [cy])) (hB : Has w g' 3 (vals .i64 [2 * H])) :
    Calls Try.prog 48 #[.int .i64 d, .pointer (some ⟨g, 0, none⟩), .pointer (some ⟨g', 0, none⟩)] w fun e w' => e = .returned (.int .i64 (d + cy)) ∧ Has w' g 3 (vals .i64 [0]) ∧ (∀ g1 t1 cs1, Has w g1 t1 cs1 → g1 ≠ g → Has w' g1 t1 cs1) ∧ Below g w w' := by
  obtain ⟨M, hM⟩ : ∃ M, 2 * H = M := ⟨_, rfl⟩
  have hM2 : M.tdiv 2 = H := by rw [← hM, Int.tdiv_eq_ediv_of_nonneg (by omega)]; omega
  obtain ⟨u, hu⟩ : ∃ u, d + cy = u := ⟨_, rfl⟩
  rw [hM] at hB
  rw [hu] at hh ⊢
  have c1 := hc.val (i := 0) (by simp)
  have c2 := hB.val (i := 0) (by simp)
  have z1 := hc.frozen 0
  have k4 := hc.set_ 0 (.int .i64 0)
  have c3 := k4.cell 0
  have z3 := k4.frozen 0
  have h4 := k4
  have c5 := (hB.far (p := ⟨g, 0, none⟩) (fun h => hne h.symm) (.int .i64 0)).val (i := 0) (by simp)
  have h5 : ∀ g1 t1 cs1, Has w g1 t1 cs1 → g1 ≠ g → Has (w.setCell ⟨g, 0, none⟩ (.int .i64 0)) g1 t1 cs1 := fun g1 t1 cs1 h hne => h.far hne _
  have h6 : Below g w (w.setCell ⟨g, 0, none⟩ (.int .i64 0)) := (Below.refl g w).setCell (p := ⟨g, 0, none⟩) (Nat.le_refl g) _
  have H5 : Keep _ := ⟨h5⟩
  have hH2 : M ≤ 256 := by omega
  have hu2 : 0 ≤ u ∧ u ≤ 256 := by omega
  clear hc hB h5 k4 hM
  simp only [nth, List.getD_cons_zero, List.getElem?_toArray, List.getElem?_cons_zero] at c1 c2 c5
  go_enter Try.func48, Try.ntmps48
  go_wp2
  go_ret
  exact ⟨rfl, h4, H5.out, h6⟩

set_option maxRecDepth 100000 in
set_option maxHeartbeats 2000000 in
theorem digitAt_2 (A : Option Addr) (n c : Nat) (l : List Int) (B : Nat) (w : World) (hr : Rd w B A n .u64 l) (hwl : Words l) (hn : n ≤ 10000) (p : Nat) (hp : p ≤ 1000000) : Calls Try.prog 50 #[.slice A n c, .int .i64 (p : Int), .int .i64 2] w fun e w' => e = .returned (.int .i64 (num l / tp p % 4)) ∧ w = w' := by
  have HL : Keep _ := ⟨hr.len⟩
  obtain ⟨q, hq⟩ : ∃ q, p / 64 = q := ⟨_, rfl⟩
  obtain ⟨s, hs⟩ : ∃ s, p % 64 = s := ⟨_, rfl⟩
  obtain ⟨t, ht⟩ : ∃ t, 64 - s = t := ⟨_, rfl⟩
  have hqi : (p : Int) / 64 = (q : Int) := by omega
  have hsi : (p : Int) % 64 = (s : Int) := by omega
  have hti : 64 - (s : Int) = (t : Int) := by omega
  have hs64 : s < 64 := by omega
  have ht64 : 1 ≤ t ∧ t ≤ 64 := by omega
  have hq2 : q ≤ 20000 := by omega
  obtain ⟨x, hx⟩ : ∃ x, nth l q = x := ⟨_, rfl⟩
  obtain ⟨y, hy⟩ : ∃ y, nth l (q + 1) = y := ⟨_, rfl⟩
  have bx : 0 ≤ x ∧ x ≤ 18446744073709551615 := hx ▸ hwl q
  have by' : 0 ≤ y ∧ y ≤ 18446744073709551615 := hy ▸ hwl (q + 1)
  have hdw := dig_word hwl (q := q) (s := s) (W := 2) hs64 (by omega) hx hy
  rw [show 64 * q + s = p by omega, ht] at hdw
  have hxs := shr_bounds bx.1 bx.2 s
  obtain ⟨r, hr_⟩ : ∃ r, num l / tp p % 4 = r := ⟨_, rfl⟩
  have hdw' : (x / 2 ^ s + y * 2 ^ t % 18446744073709551616) % 4 = r := hdw.trans hr_
  have hr0 : 0 ≤ r ∧ r < 4 := by omega
  obtain ⟨xs, hxs_⟩ : ∃ xs, x / 2 ^ s = xs := ⟨_, rfl⟩
  obtain ⟨ys, hys_⟩ : ∃ ys, y * 2 ^ t % 18446744073709551616 = ys := ⟨_, rfl⟩
  have hxt : xs < 2 ^ t := by
    rw [← hxs_]
    refine Int.ediv_lt_of_lt_mul (tp_pos s) ?_
    have e64 : (2 : Int) ^ t * 2 ^ s = 18446744073709551616 := by
      show tp t * tp s = _
      rw [← tp_add, show t + s = 64 by omega]
      rfl
    show x < 2 ^ t * 2 ^ s
    omega
  have hys0 : 0 ≤ ys ∧ ys < 18446744073709551616 := by omega
  have hyt : ys % 2 ^ t = 0 := by
    have e64 : (18446744073709551616 : Int) = 2 ^ t * 2 ^ s := by
      show _ = tp t * tp s
      rw [← tp_add, show t + s = 64 by omega]
      rfl
    have e4 := Int.mul_ediv_add_emod (y * 2 ^ t) 18446744073709551616
    rw [hys_] at e4
    have : ys = 0 + 2 ^ t * (y - 2 ^ s * (y * 2 ^ t / 18446744073709551616)) := by
      obtain ⟨k, hk⟩ : ∃ k, y * 2 ^ t / 18446744073709551616 = k := ⟨_, rfl⟩
      rw [hk] at e4 ⊢
      rw [e64] at e4
      grind
    rw [this, Int.add_mul_emod_self_left]
    rfl
  rw [hxs_, hys_] at hdw'
  rw [hxs_] at hxs
  have hor := or_up t hxs.1 hxt (by omega) hys0.1 hyt hys0.2
  have hsum : xs + ys < 18446744073709551616 := by
    have e1 := Int.mul_ediv_add_emod ys (2 ^ t)
    rw [hyt] at e1
    obtain ⟨k, hk⟩ : ∃ k, ys / 2 ^ t = k := ⟨_, rfl⟩
    rw [hk] at e1
    have e64 : (18446744073709551616 : Int) = 2 ^ t * 2 ^ s := by
      show _ = tp t * tp s
      rw [← tp_add, show t + s = 64 by omega]
      rfl
    have hp : (0 : Int) < 2 ^ t := tp_pos t
    have : k < 2 ^ s := by
      rcases Int.lt_or_le k (2 ^ s) with h | h
      · exact h
      · have := Int.mul_le_mul_of_nonneg_left h (Int.le_of_lt hp)
        omega
    have := Int.mul_le_mul_of_nonneg_left (show k + 1 ≤ 2 ^ s by omega) (Int.le_of_lt hp)
    rw [Int.mul_add, Int.mul_one] at this
    omega
  rw [hr_]
  have HO : Keep (bits .or .u64 xs ys = xs + ys) := ⟨hor⟩
  have HX : Keep (nth l q = x) := ⟨hx⟩
  have HY : Keep (nth l (q + 1) = y) := ⟨hy⟩
  have hwr : IntKind.u64.wrap (y * 2 ^ t) = ys := by rw [IntKind.wrap_u64]; exact hys_
  clear hdw hq hs ht hp hx hy hr_ hyt hxt hwl hor
  rcases Nat.lt_or_ge q n with h1 | h1
  · obtain ⟨b1, o1, rfl, hlb1, hc1⟩ := hr.at_ (by omega)
    have c1 := hc1 q h1
    rw [HX.out] at c1
    rcases Nat.lt_or_ge (q + 1) n with h2 | h2
    · have c2 := hc1 (q + 1) h2
      rw [HY.out] at c2
      have hor := HO.out
      have htm : (xs + ys).tmod 4 = r := by rw [Int.tmod_eq_emod_of_nonneg (by omega)]; exact hdw'
      clear hc1
      go_enter Try.func50, Try.ntmps50
      go_wp2
      go_ret
      exact ⟨rfl, rfl⟩
    · have e0 : y = 0 := by rw [← HY.out]; exact nth_ge (by rw [HL.out]; exact h2)
      have e1 : ys = 0 := by rw [← hys_, e0, Int.zero_mul]; rfl
      rw [e1, Int.add_zero] at hdw'
      have htm : xs.tmod 4 = r := by rw [Int.tmod_eq_emod_of_nonneg hxs.1]; exact hdw'
      clear hc1 hsum
      go_enter Try.func50, Try.ntmps50
      go_wp2
      go_ret
      exact ⟨rfl, rfl⟩
  · have e0 : x = 0 := by rw [← HX.out]; exact nth_ge (by rw [HL.out]; exact h1)
    have e1 : xs = 0 := by rw [← hxs_, e0, Int.zero_ediv]
    have e2 : y = 0 := by rw [← HY.out]; exact nth_ge (by rw [HL.out]; omega)
    have e3 : ys = 0 := by rw [← hys_, e2, Int.zero_mul]; rfl
    rw [e1, e3] at hdw'
    have e4 : r = 0 := by omega
    rw [e4]
    have h2 : ¬ q + 1 < n := by omega
    clear hsum hdw' e1 e3 hxs_ hys_ e0 e2
    go_enter Try.func50, Try.ntmps50
    go_wp2
    go_ret
    exact ⟨rfl, rfl⟩

set_option maxRecDepth 100000 in
set_option maxHeartbeats 2000000 in
theorem digitAt_3 (A : Option Addr) (n c : Nat) (l : List Int) (B : Nat) (w : World) (hr : Rd w B A n .u64 l) (hwl : Words l) (hn : n ≤ 10000) (p : Nat) (hp : p ≤ 1000000) : Calls Try.prog 50 #[.slice A n c, .int .i64 (p : Int), .int .i64 3] w fun e w' => e = .returned (.int .i64 (num l / tp p % 8)) ∧ w = w' := by
  have HL : Keep _ := ⟨hr.len⟩
  obtain ⟨q, hq⟩ : ∃ q, p / 64 = q := ⟨_, rfl⟩
  obtain ⟨s, hs⟩ : ∃ s, p % 64 = s := ⟨_, rfl⟩
  obtain ⟨t, ht⟩ : ∃ t, 64 - s = t := ⟨_, rfl⟩
  have hqi : (p : Int) / 64 = (q : Int) := by omega
  have hsi : (p : Int) % 64 = (s : Int) := by omega
  have hti : 64 - (s : Int) = (t : Int) := by omega
  have hs64 : s < 64 := by omega
  have ht64 : 1 ≤ t ∧ t ≤ 64 := by omega
  have hq2 : q ≤ 20000 := by omega
  obtain ⟨x, hx⟩ : ∃ x, nth l q = x := ⟨_, rfl⟩
  obtain ⟨y, hy⟩ : ∃ y, nth l (q + 1) = y := ⟨_, rfl⟩
  have bx : 0 ≤ x ∧ x ≤ 18446744073709551615 := hx ▸ hwl q
  have by' : 0 ≤ y ∧ y ≤ 18446744073709551615 := hy ▸ hwl (q + 1)
  have hdw := dig_word hwl (q := q) (s := s) (W := 3) hs64 (by omega) hx hy
  rw [show 64 * q + s = p by omega, ht] at hdw
  have hxs := shr_bounds bx.1 bx.2 s
  obtain ⟨r, hr_⟩ : ∃ r, num l / tp p % 8 = r := ⟨_, rfl⟩
  have hdw' : (x / 2 ^ s + y * 2 ^ t % 18446744073709551616) % 8 = r := hdw.trans hr_
  have hr0 : 0 ≤ r ∧ r < 8 := by omega
  obtain ⟨xs, hxs_⟩ : ∃ xs, x / 2 ^ s = xs := ⟨_, rfl⟩
  obtain ⟨ys, hys_⟩ : ∃ ys, y * 2 ^ t % 18446744073709551616 = ys := ⟨_, rfl⟩
  have hxt : xs < 2 ^ t := by
    rw [← hxs_]
    refine Int.ediv_lt_of_lt_mul (tp_pos s) ?_
    have e64 : (2 : Int) ^ t * 2 ^ s = 18446744073709551616 := by
      show tp t * tp s = _
      rw [← tp_add, show t + s = 64 by omega]
      rfl
    show x < 2 ^ t * 2 ^ s
    omega
  have hys0 : 0 ≤ ys ∧ ys < 18446744073709551616 := by omega
  have hyt : ys % 2 ^ t = 0 := by
    have e64 : (18446744073709551616 : Int) = 2 ^ t * 2 ^ s := by
      show _ = tp t * tp s
      rw [← tp_add, show t + s = 64 by omega]
      rfl
    have e4 := Int.mul_ediv_add_emod (y * 2 ^ t) 18446744073709551616
    rw [hys_] at e4
    have : ys = 0 + 2 ^ t * (y - 2 ^ s * (y * 2 ^ t / 18446744073709551616)) := by
      obtain ⟨k, hk⟩ : ∃ k, y * 2 ^ t / 18446744073709551616 = k := ⟨_, rfl⟩
      rw [hk] at e4 ⊢
      rw [e64] at e4
      grind
    rw [this, Int.add_mul_emod_self_left]
    rfl
  rw [hxs_, hys_] at hdw'
  rw [hxs_] at hxs
  have hor := or_up t hxs.1 hxt (by omega) hys0.1 hyt hys0.2
  have hsum : xs + ys < 18446744073709551616 := by
    have e1 := Int.mul_ediv_add_emod ys (2 ^ t)
    rw [hyt] at e1
    obtain ⟨k, hk⟩ : ∃ k, ys / 2 ^ t = k := ⟨_, rfl⟩
    rw [hk] at e1
    have e64 : (18446744073709551616 : Int) = 2 ^ t * 2 ^ s := by
      show _ = tp t * tp s
      rw [← tp_add, show t + s = 64 by omega]
      rfl
    have hp : (0 : Int) < 2 ^ t := tp_pos t
    have : k < 2 ^ s := by
      rcases Int.lt_or_le k (2 ^ s) with h | h
      · exact h
      · have := Int.mul_le_mul_of_nonneg_left h (Int.le_of_lt hp)
        omega
    have := Int.mul_le_mul_of_nonneg_left (show k + 1 ≤ 2 ^ s by omega) (Int.le_of_lt hp)
    rw [Int.mul_add, Int.mul_one] at this
    omega
  rw [hr_]
  have HO : Keep (bits .or .u64 xs ys = xs + ys) := ⟨hor⟩
  have HX : Keep (nth l q = x) := ⟨hx⟩
  have HY : Keep (nth l (q + 1) = y) := ⟨hy⟩
  have hwr : IntKind.u64.wrap (y * 2 ^ t) = ys := by rw [IntKind.wrap_u64]; exact hys_
  clear hdw hq hs ht hp hx hy hr_ hyt hxt hwl hor
  rcases Nat.lt_or_ge q n with h1 | h1
  · obtain ⟨b1, o1, rfl, hlb1, hc1⟩ := hr.at_ (by omega)
    have c1 := hc1 q h1
    rw [HX.out] at c1
    rcases Nat.lt_or_ge (q + 1) n with h2 | h2
    · have c2 := hc1 (q + 1) h2
      rw [HY.out] at c2
      have hor := HO.out
      have htm : (xs + ys).tmod 8 = r := by rw [Int.tmod_eq_emod_of_nonneg (by omega)]; exact hdw'
      clear hc1
      go_enter Try.func50, Try.ntmps50
      go_wp2
      go_ret
      exact ⟨rfl, rfl⟩
    · have e0 : y = 0 := by rw [← HY.out]; exact nth_ge (by rw [HL.out]; exact h2)
      have e1 : ys = 0 := by rw [← hys_, e0, Int.zero_mul]; rfl
      rw [e1, Int.add_zero] at hdw'
      have htm : xs.tmod 8 = r := by rw [Int.tmod_eq_emod_of_nonneg hxs.1]; exact hdw'
      clear hc1 hsum
      go_enter Try.func50, Try.ntmps50
      go_wp2
      go_ret
      exact ⟨rfl, rfl⟩
  · have e0 : x = 0 := by rw [← HX.out]; exact nth_ge (by rw [HL.out]; exact h1)
    have e1 : xs = 0 := by rw [← hxs_, e0, Int.zero_ediv]
    have e2 : y = 0 := by rw [← HY.out]; exact nth_ge (by rw [HL.out]; omega)
    have e3 : ys = 0 := by rw [← hys_, e2, Int.zero_mul]; rfl
    rw [e1, e3] at hdw'
    have e4 : r = 0 := by omega
    rw [e4]
    have h2 : ¬ q + 1 < n := by omega
    clear hsum hdw' e1 e3 hxs_ hys_ e0 e2
    go_enter Try.func50, Try.ntmps50
    go_wp2
    go_ret
    exact ⟨rfl, rfl⟩

set_option maxRecDepth 100000 in
set_option maxHeartbeats 2000000 in
theorem digitAt_4 (A : Option Addr) (n c : Nat) (l : List Int) (B : Nat) (w : World) (hr : Rd w B A n .u64 l) (hwl : Words l) (hn : n ≤ 10000) (p : Nat) (hp : p ≤ 1000000) : Calls Try.prog 50 #[.slice A n c, .int .i64 (p : Int), .int .i64 4] w fun e w' => e = .returned (.int .i64 (num l / tp p % 16)) ∧ w = w' := by
  have HL : Keep _ := ⟨hr.len⟩
  obtain ⟨q, hq⟩ : ∃ q, p / 64 = q := ⟨_, rfl⟩
  obtain ⟨s, hs⟩ : ∃ s, p % 64 = s := ⟨_, rfl⟩
  obtain ⟨t, ht⟩ : ∃ t, 64 - s = t := ⟨_, rfl⟩
  have hqi : (p : Int) / 64 = (q : Int) := by omega
  have hsi : (p : Int) % 64 = (s : Int) := by omega
  have hti : 64 - (s : Int) = (t : Int) := by omega
  have hs64 : s < 64 := by omega
  have ht64 : 1 ≤ t ∧ t ≤ 64 := by omega
  have hq2 : q ≤ 20000 := by omega
  obtain ⟨x, hx⟩ : ∃ x, nth l q = x := ⟨_, rfl⟩
  obtain ⟨y, hy⟩ : ∃ y, nth l (q + 1) = y := ⟨_, rfl⟩
  have bx : 0 ≤ x ∧ x ≤ 18446744073709551615 := hx ▸ hwl q
  have by' : 0 ≤ y ∧ y ≤ 18446744073709551615 := hy ▸ hwl (q + 1)
  have hdw := dig_word hwl (q := q) (s := s) (W := 4) hs64 (by omega) hx hy
  rw [show 64 * q + s = p by omega, ht] at hdw
  have hxs := shr_bounds bx.1 bx.2 s
  obtain ⟨r, hr_⟩ : ∃ r, num l / tp p % 16 = r := ⟨_, rfl⟩
  have hdw' : (x / 2 ^ s + y * 2 ^ t % 18446744073709551616) % 16 = r := hdw.trans hr_
  have hr0 : 0 ≤ r ∧ r < 16 := by omega
  obtain ⟨xs, hxs_⟩ : ∃ xs, x / 2 ^ s = xs := ⟨_, rfl⟩
  obtain ⟨ys, hys_⟩ : ∃ ys, y * 2 ^ t % 18446744073709551616 = ys := ⟨_, rfl⟩
  have hxt : xs < 2 ^ t := by
    rw [← hxs_]
    refine Int.ediv_lt_of_lt_mul (tp_pos s) ?_
    have e64 : (2 : Int) ^ t * 2 ^ s = 18446744073709551616 := by
      show tp t * tp s = _
      rw [← tp_add, show t + s = 64 by omega]
      rfl
    show x < 2 ^ t * 2 ^ s
    omega
  have hys0 : 0 ≤ ys ∧ ys < 18446744073709551616 := by omega
  have hyt : ys % 2 ^ t = 0 := by
    have e64 : (18446744073709551616 : Int) = 2 ^ t * 2 ^ s := by
      show _ = tp t * tp s
      rw [← tp_add, show t + s = 64 by omega]
      rfl
    have e4 := Int.mul_ediv_add_emod (y * 2 ^ t) 18446744073709551616
    rw [hys_] at e4
    have : ys = 0 + 2 ^ t * (y - 2 ^ s * (y * 2 ^ t / 18446744073709551616)) := by
      obtain ⟨k, hk⟩ : ∃ k, y * 2 ^ t / 18446744073709551616 = k := ⟨_, rfl⟩
      rw [hk] at e4 ⊢
      rw [e64] at e4
      grind
    rw [this, Int.add_mul_emod_self_left]
    rfl
  rw [hxs_, hys_] at hdw'
  rw [hxs_] at hxs
  have hor := or_up t hxs.1 hxt (by omega) hys0.1 hyt hys0.2
  have hsum : xs + ys < 18446744073709551616 := by
    have e1 := Int.mul_ediv_add_emod ys (2 ^ t)
    rw [hyt] at e1
    obtain ⟨k, hk⟩ : ∃ k, ys / 2 ^ t = k := ⟨_, rfl⟩
    rw [hk] at e1
    have e64 : (18446744073709551616 : Int) = 2 ^ t * 2 ^ s := by
      show _ = tp t * tp s
      rw [← tp_add, show t + s = 64 by omega]
      rfl
    have hp : (0 : Int) < 2 ^ t := tp_pos t
    have : k < 2 ^ s := by
      rcases Int.lt_or_le k (2 ^ s) with h | h
      · exact h
      · have := Int.mul_le_mul_of_nonneg_left h (Int.le_of_lt hp)
        omega
    have := Int.mul_le_mul_of_nonneg_left (show k + 1 ≤ 2 ^ s by omega) (Int.le_of_lt hp)
    rw [Int.mul_add, Int.mul_one] at this
    omega
  rw [hr_]
  have HO : Keep (bits .or .u64 xs ys = xs + ys) := ⟨hor⟩
  have HX : Keep (nth l q = x) := ⟨hx⟩
  have HY : Keep (nth l (q + 1) = y) := ⟨hy⟩
  have hwr : IntKind.u64.wrap (y * 2 ^ t) = ys := by rw [IntKind.wrap_u64]; exact hys_
  clear hdw hq hs ht hp hx hy hr_ hyt hxt hwl hor
  rcases Nat.lt_or_ge q n with h1 | h1
  · obtain ⟨b1, o1, rfl, hlb1, hc1⟩ := hr.at_ (by omega)
    have c1 := hc1 q h1
    rw [HX.out] at c1
    rcases Nat.lt_or_ge (q + 1) n with h2 | h2
    · have c2 := hc1 (q + 1) h2
      rw [HY.out] at c2
      have hor := HO.out
      have htm : (xs + ys).tmod 16 = r := by rw [Int.tmod_eq_emod_of_nonneg (by omega)]; exact hdw'
      clear hc1
      go_enter Try.func50, Try.ntmps50
      go_wp2
      go_ret
      exact ⟨rfl, rfl⟩
    · have e0 : y = 0 := by rw [← HY.out]; exact nth_ge (by rw [HL.out]; exact h2)
      have e1 : ys = 0 := by rw [← hys_, e0, Int.zero_mul]; rfl
      rw [e1, Int.add_zero] at hdw'
      have htm : xs.tmod 16 = r := by rw [Int.tmod_eq_emod_of_nonneg hxs.1]; exact hdw'
      clear hc1 hsum
      go_enter Try.func50, Try.ntmps50
      go_wp2
      go_ret
      exact ⟨rfl, rfl⟩
  · have e0 : x = 0 := by rw [← HX.out]; exact nth_ge (by rw [HL.out]; exact h1)
    have e1 : xs = 0 := by rw [← hxs_, e0, Int.zero_ediv]
    have e2 : y = 0 := by rw [← HY.out]; exact nth_ge (by rw [HL.out]; omega)
    have e3 : ys = 0 := by rw [← hys_, e2, Int.zero_mul]; rfl
    rw [e1, e3] at hdw'
    have e4 : r = 0 := by omega
    rw [e4]
    have h2 : ¬ q + 1 < n := by omega
    clear hsum hdw' e1 e3 hxs_ hys_ e0 e2
    go_enter Try.func50, Try.ntmps50
    go_wp2
    go_ret
    exact ⟨rfl, rfl⟩

set_option maxRecDepth 100000 in
set_option maxHeartbeats 2000000 in
theorem digitAt_5 (A : Option Addr) (n c : Nat) (l : List Int) (B : Nat) (w : World) (hr : Rd w B A n .u64 l) (hwl : Words l) (hn : n ≤ 10000) (p : Nat) (hp : p ≤ 1000000) : Calls Try.prog 50 #[.slice A n c, .int .i64 (p : Int), .int .i64 5] w fun e w' => e = .returned (.int .i64 (num l / tp p % 32)) ∧ w = w' := by
  have HL : Keep _ := ⟨hr.len⟩
  obtain ⟨q, hq⟩ : ∃ q, p / 64 = q := ⟨_, rfl⟩
  obtain ⟨s, hs⟩ : ∃ s, p % 64 = s := ⟨_, rfl⟩
  obtain ⟨t, ht⟩ : ∃ t, 64 - s = t := ⟨_, rfl⟩
  have hqi : (p : Int) / 64 = (q : Int) := by omega
  have hsi : (p : Int) % 64 = (s : Int) := by omega
  have hti : 64 - (s : Int) = (t : Int) := by omega
  have hs64 : s < 64 := by omega
  have ht64 : 1 ≤ t ∧ t ≤ 64 := by omega
  have hq2 : q ≤ 20000 := by omega
  obtain ⟨x, hx⟩ : ∃ x, nth l q = x := ⟨_, rfl⟩
  obtain ⟨y, hy⟩ : ∃ y, nth l (q + 1) = y := ⟨_, rfl⟩
  have bx : 0 ≤ x ∧ x ≤ 18446744073709551615 := hx ▸ hwl q
  have by' : 0 ≤ y ∧ y ≤ 18446744073709551615 := hy ▸ hwl (q + 1)
  have hdw := dig_word hwl (q := q) (s := s) (W := 5) hs64 (by omega) hx hy
  rw [show 64 * q + s = p by omega, ht] at hdw
  have hxs := shr_bounds bx.1 bx.2 s
  obtain ⟨r, hr_⟩ : ∃ r, num l / tp p % 32 = r := ⟨_, rfl⟩
  have hdw' : (x / 2 ^ s + y * 2 ^ t % 18446744073709551616) % 32 = r := hdw.trans hr_
  have hr0 : 0 ≤ r ∧ r < 32 := by omega
  obtain ⟨xs, hxs_⟩ : ∃ xs, x / 2 ^ s = xs := ⟨_, rfl⟩
  obtain ⟨ys, hys_⟩ : ∃ ys, y * 2 ^ t % 18446744073709551616 = ys := ⟨_, rfl⟩
  have hxt : xs < 2 ^ t := by
    rw [← hxs_]
    refine Int.ediv_lt_of_lt_mul (tp_pos s) ?_
    have e64 : (2 : Int) ^ t * 2 ^ s = 18446744073709551616 := by
      show tp t * tp s = _
      rw [← tp_add, show t + s = 64 by omega]
      rfl
    show x < 2 ^ t * 2 ^ s
    omega
  have hys0 : 0 ≤ ys ∧ ys < 18446744073709551616 := by omega
  have hyt : ys % 2 ^ t = 0 := by
    have e64 : (18446744073709551616 : Int) = 2 ^ t * 2 ^ s := by
      show _ = tp t * tp s
      rw [← tp_add, show t + s = 64 by omega]
      rfl
    have e4 := Int.mul_ediv_add_emod (y * 2 ^ t) 18446744073709551616
    rw [hys_] at e4
    have : ys = 0 + 2 ^ t * (y - 2 ^ s * (y * 2 ^ t / 18446744073709551616)) := by
      obtain ⟨k, hk⟩ : ∃ k, y * 2 ^ t / 18446744073709551616 = k := ⟨_, rfl⟩
      rw [hk] at e4 ⊢
      rw [e64] at e4
      grind
    rw [this, Int.add_mul_emod_self_left]
    rfl
  rw [hxs_, hys_] at hdw'
  rw [hxs_] at hxs
  have hor := or_up t hxs.1 hxt (by omega) hys0.1 hyt hys0.2
  have hsum : xs + ys < 18446744073709551616 := by
    have e1 := Int.mul_ediv_add_emod ys (2 ^ t)
    rw [hyt] at e1
    obtain ⟨k, hk⟩ : ∃ k, ys / 2 ^ t = k := ⟨_, rfl⟩
    rw [hk] at e1
    have e64 : (18446744073709551616 : Int) = 2 ^ t * 2 ^ s := by
      show _ = tp t * tp s
      rw [← tp_add, show t + s = 64 by omega]
      rfl
    have hp : (0 : Int) < 2 ^ t := tp_pos t
    have : k < 2 ^ s := by
      rcases Int.lt_or_le k (2 ^ s) with h | h
      · exact h
      · have := Int.mul_le_mul_of_nonneg_left h (Int.le_of_lt hp)
        omega
    have := Int.mul_le_mul_of_nonneg_left (show k + 1 ≤ 2 ^ s by omega) (Int.le_of_lt hp)
    rw [Int.mul_add, Int.mul_one] at this
    omega
  rw [hr_]
  have HO : Keep (bits .or .u64 xs ys = xs + ys) := ⟨hor⟩
  have HX : Keep (nth l q = x) := ⟨hx⟩
  have HY : Keep (nth l (q + 1) = y) := ⟨hy⟩
  have hwr : IntKind.u64.wrap (y * 2 ^ t) = ys := by rw [IntKind.wrap_u64]; exact hys_
  clear hdw hq hs ht hp hx hy hr_ hyt hxt hwl hor
  rcases Nat.lt_or_ge q n with h1 | h1
  · obtain ⟨b1, o1, rfl, hlb1, hc1⟩ := hr.at_ (by omega)
    have c1 := hc1 q h1
    rw [HX.out] at c1
    rcases Nat.lt_or_ge (q + 1) n with h2 | h2
    · have c2 := hc1 (q + 1) h2
      rw [HY.out] at c2
      have hor := HO.out
      have htm : (xs + ys).tmod 32 = r := by rw [Int.tmod_eq_emod_of_nonneg (by omega)]; exact hdw'
      clear hc1
      go_enter Try.func50, Try.ntmps50
      go_wp2
      go_ret
      exact ⟨rfl, rfl⟩
    · have e0 : y = 0 := by rw [← HY.out]; exact nth_ge (by rw [HL.out]; exact h2)
      have e1 : ys = 0 := by rw [← hys_, e0, Int.zero_mul]; rfl
      rw [e1, Int.add_zero] at hdw'
      have htm : xs.tmod 32 = r := by rw [Int.tmod_eq_emod_of_nonneg hxs.1]; exact hdw'
      clear hc1 hsum
      go_enter Try.func50, Try.ntmps50
      go_wp2
      go_ret
      exact ⟨rfl, rfl⟩
  · have e0 : x = 0 := by rw [← HX.out]; exact nth_ge (by rw [HL.out]; exact h1)
    have e1 : xs = 0 := by rw [← hxs_, e0, Int.zero_ediv]
    have e2 : y = 0 := by rw [← HY.out]; exact nth_ge (by rw [HL.out]; omega)
    have e3 : ys = 0 := by rw [← hys_, e2, Int.zero_mul]; rfl
    rw [e1, e3] at hdw'
    have e4 : r = 0 := by omega
    rw [e4]
    have h2 : ¬ q + 1 < n := by omega
    clear hsum hdw' e1 e3 hxs_ hys_ e0 e2
    go_enter Try.func50, Try.ntmps50
    go_wp2
    go_ret
    exact ⟨rfl, rfl⟩

set_option maxRecDepth 100000 in
set_option maxHeartbeats 2000000 in
theorem digitAt_6 (A : Option Addr) (n c : Nat) (l : List Int) (B : Nat) (w : World) (hr : Rd w B A n .u64 l) (hwl : Words l) (hn : n ≤ 10000) (p : Nat) (hp : p ≤ 1000000) : Calls Try.prog 50 #[.slice A n c, .int .i64 (p : Int), .int .i64 6] w fun e w' => e = .returned (.int .i64 (num l / tp p % 64)) ∧ w = w' := by
  have HL : Keep _ := ⟨hr.len⟩
  obtain ⟨q, hq⟩ : ∃ q, p / 64 = q := ⟨_, rfl⟩
  obtain ⟨s, hs⟩ : ∃ s, p % 64 = s := ⟨_, rfl⟩
  obtain ⟨t, ht⟩ : ∃ t, 64 - s = t := ⟨_, rfl⟩
  have hqi : (p : Int) / 64 = (q : Int) := by omega
  have hsi : (p : Int) % 64 = (s : Int) := by omega
  have hti : 64 - (s : Int) = (t : Int) := by omega
  have hs64 : s < 64 := by omega
  have ht64 : 1 ≤ t ∧ t ≤ 64 := by omega
  have hq2 : q ≤ 20000 := by omega
  obtain ⟨x, hx⟩ : ∃ x, nth l q = x := ⟨_, rfl⟩
  obtain ⟨y, hy⟩ : ∃ y, nth l (q + 1) = y := ⟨_, rfl⟩
  have bx : 0 ≤ x ∧ x ≤ 18446744073709551615 := hx ▸ hwl q
  have by' : 0 ≤ y ∧ y ≤ 18446744073709551615 := hy ▸ hwl (q + 1)
  have hdw := dig_word hwl (q := q) (s := s) (W := 6) hs64 (by omega) hx hy
  rw [show 64 * q + s = p by omega, ht] at hdw
  have hxs := shr_bounds bx.1 bx.2 s
  obtain ⟨r, hr_⟩ : ∃ r, num l / tp p % 64 = r := ⟨_, rfl⟩
  have hdw' : (x / 2 ^ s + y * 2 ^ t % 18446744073709551616) % 64 = r := hdw.trans hr_
  have hr0 : 0 ≤ r ∧ r < 64 := by omega
  obtain ⟨xs, hxs_⟩ : ∃ xs, x / 2 ^ s = xs := ⟨_, rfl⟩
  obtain ⟨ys, hys_⟩ : ∃ ys, y * 2 ^ t % 18446744073709551616 = ys := ⟨_, rfl⟩
  have hxt : xs < 2 ^ t := by
    rw [← hxs_]
    refine Int.ediv_lt_of_lt_mul (tp_pos s) ?_
    have e64 : (2 : Int) ^ t * 2 ^ s = 18446744073709551616 := by
      show tp t * tp s = _
      rw [← tp_add, show t + s = 64 by omega]
      rfl
    show x < 2 ^ t * 2 ^ s
    omega
  have hys0 : 0 ≤ ys ∧ ys < 18446744073709551616 := by omega
  have hyt : ys % 2 ^ t = 0 := by
    have e64 : (18446744073709551616 : Int) = 2 ^ t * 2 ^ s := by
      show _ = tp t * tp s
      rw [← tp_add, show t + s = 64 by omega]
      rfl
    have e4 := Int.mul_ediv_add_emod (y * 2 ^ t) 18446744073709551616
    rw [hys_] at e4
    have : ys = 0 + 2 ^ t * (y - 2 ^ s * (y * 2 ^ t / 18446744073709551616)) := by
      obtain ⟨k, hk⟩ : ∃ k, y * 2 ^ t / 18446744073709551616 = k := ⟨_, rfl⟩
      rw [hk] at e4 ⊢
      rw [e64] at e4
      grind
    rw [this, Int.add_mul_emod_self_left]
    rfl
  rw [hxs_, hys_] at hdw'
  rw [hxs_] at hxs
  have hor := or_up t hxs.1 hxt (by omega) hys0.1 hyt hys0.2
  have hsum : xs + ys < 18446744073709551616 := by
    have e1 := Int.mul_ediv_add_emod ys (2 ^ t)
    rw [hyt] at e1
    obtain ⟨k, hk⟩ : ∃ k, ys / 2 ^ t = k := ⟨_, rfl⟩
    rw [hk] at e1
    have e64 : (18446744073709551616 : Int) = 2 ^ t * 2 ^ s := by
      show _ = tp t * tp s
      rw [← tp_add, show t + s = 64 by omega]
      rfl
    have hp : (0 : Int) < 2 ^ t := tp_pos t
    have : k < 2 ^ s := by
      rcases Int.lt_or_le k (2 ^ s) with h | h
      · exact h
      · have := Int.mul_le_mul_of_nonneg_left h (Int.le_of_lt hp)
        omega
    have := Int.mul_le_mul_of_nonneg_left (show k + 1 ≤ 2 ^ s by omega) (Int.le_of_lt hp)
    rw [Int.mul_add, Int.mul_one] at this
    omega
  rw [hr_]
  have HO : Keep (bits .or .u64 xs ys = xs + ys) := ⟨hor⟩
  have HX : Keep (nth l q = x) := ⟨hx⟩
  have HY : Keep (nth l (q + 1) = y) := ⟨hy⟩
  have hwr : IntKind.u64.wrap (y * 2 ^ t) = ys := by rw [IntKind.wrap_u64]; exact hys_
  clear hdw hq hs ht hp hx hy hr_ hyt hxt hwl hor
  rcases Nat.lt_or_ge q n with h1 | h1
  · obtain ⟨b1, o1, rfl, hlb1, hc1⟩ := hr.at_ (by omega)
    have c1 := hc1 q h1
    rw [HX.out] at c1
    rcases Nat.lt_or_ge (q + 1) n with h2 | h2
    · have c2 := hc1 (q + 1) h2
      rw [HY.out] at c2
      have hor := HO.out
      have htm : (xs + ys).tmod 64 = r := by rw [Int.tmod_eq_emod_of_nonneg (by omega)]; exact hdw'
      clear hc1
      go_enter Try.func50, Try.ntmps50
      go_wp2
      go_ret
      exact ⟨rfl, rfl⟩
    · have e0 : y = 0 := by rw [← HY.out]; exact nth_ge (by rw [HL.out]; exact h2)
      have e1 : ys = 0 := by rw [← hys_, e0, Int.zero_mul]; rfl
      rw [e1, Int.add_zero] at hdw'
      have htm : xs.tmod 64 = r := by rw [Int.tmod_eq_emod_of_nonneg hxs.1]; exact hdw'
      clear hc1 hsum
      go_enter Try.func50, Try.ntmps50
      go_wp2
      go_ret
      exact ⟨rfl, rfl⟩
  · have e0 : x = 0 := by rw [← HX.out]; exact nth_ge (by rw [HL.out]; exact h1)
    have e1 : xs = 0 := by rw [← hxs_, e0, Int.zero_ediv]
    have e2 : y = 0 := by rw [← HY.out]; exact nth_ge (by rw [HL.out]; omega)
    have e3 : ys = 0 := by rw [← hys_, e2, Int.zero_mul]; rfl
    rw [e1, e3] at hdw'
    have e4 : r = 0 := by omega
    rw [e4]
    have h2 : ¬ q + 1 < n := by omega
    clear hsum hdw' e1 e3 hxs_ hys_ e0 e2
    go_enter Try.func50, Try.ntmps50
    go_wp2
    go_ret
    exact ⟨rfl, rfl⟩

set_option maxRecDepth 100000 in
set_option maxHeartbeats 2000000 in
theorem digitAt_7 (A : Option Addr) (n c : Nat) (l : List Int) (B : Nat) (w : World) (hr : Rd w B A n .u64 l) (hwl : Words l) (hn : n ≤ 10000) (p : Nat) (hp : p ≤ 1000000) : Calls Try.prog 50 #[.slice A n c, .int .i64 (p : Int), .int .i64 7] w fun e w' => e = .returned (.int .i64 (num l / tp p % 128)) ∧ w = w' := by
  have HL : Keep _ := ⟨hr.len⟩
  obtain ⟨q, hq⟩ : ∃ q, p / 64 = q := ⟨_, rfl⟩
  obtain ⟨s, hs⟩ : ∃ s, p % 64 = s := ⟨_, rfl⟩
  obtain ⟨t, ht⟩ : ∃ t, 64 - s = t := ⟨_, rfl⟩
  have hqi : (p : Int) / 64 = (q : Int) := by omega
  have hsi : (p : Int) % 64 = (s : Int) := by omega
  have hti : 64 - (s : Int) = (t : Int) := by omega
  have hs64 : s < 64 := by omega
  have ht64 : 1 ≤ t ∧ t ≤ 64 := by omega
  have hq2 : q ≤ 20000 := by omega
  obtain ⟨x, hx⟩ : ∃ x, nth l q = x := ⟨_, rfl⟩
  obtain ⟨y, hy⟩ : ∃ y, nth l (q + 1) = y := ⟨_, rfl⟩
  have bx : 0 ≤ x ∧ x ≤ 18446744073709551615 := hx ▸ hwl q
  have by' : 0 ≤ y ∧ y ≤ 18446744073709551615 := hy ▸ hwl (q + 1)
  have hdw := dig_word hwl (q := q) (s := s) (W := 7) hs64 (by omega) hx hy
  rw [show 64 * q + s = p by omega, ht] at hdw
  have hxs := shr_bounds bx.1 bx.2 s
  obtain ⟨r, hr_⟩ : ∃ r, num l / tp p % 128 = r := ⟨_, rfl⟩
  have hdw' : (x / 2 ^ s + y * 2 ^ t % 18446744073709551616) % 128 = r := hdw.trans hr_
  have hr0 : 0 ≤ r ∧ r < 128 := by omega
  obtain ⟨xs, hxs_⟩ : ∃ xs, x / 2 ^ s = xs := ⟨_, rfl⟩
  obtain ⟨ys, hys_⟩ : ∃ ys, y * 2 ^ t % 18446744073709551616 = ys := ⟨_, rfl⟩
  have hxt : xs < 2 ^ t := by
    rw [← hxs_]
    refine Int.ediv_lt_of_lt_mul (tp_pos s) ?_
    have e64 : (2 : Int) ^ t * 2 ^ s = 18446744073709551616 := by
      show tp t * tp s = _
      rw [← tp_add, show t + s = 64 by omega]
      rfl
    show x < 2 ^ t * 2 ^ s
    omega
  have hys0 : 0 ≤ ys ∧ ys < 18446744073709551616 := by omega
  have hyt : ys % 2 ^ t = 0 := by
    have e64 : (18446744073709551616 : Int) = 2 ^ t * 2 ^ s := by
      show _ = tp t * tp s
      rw [← tp_add, show t + s = 64 by omega]
      rfl
    have e4 := Int.mul_ediv_add_emod (y * 2 ^ t) 18446744073709551616
    rw [hys_] at e4
    have : ys = 0 + 2 ^ t * (y - 2 ^ s * (y * 2 ^ t / 18446744073709551616)) := by
      obtain ⟨k, hk⟩ : ∃ k, y * 2 ^ t / 18446744073709551616 = k := ⟨_, rfl⟩
      rw [hk] at e4 ⊢
      rw [e64] at e4
      grind
    rw [this, Int.add_mul_emod_self_left]
    rfl
  rw [hxs_, hys_] at hdw'
  rw [hxs_] at hxs
  have hor := or_up t hxs.1 hxt (by omega) hys0.1 hyt hys0.2
  have hsum : xs + ys < 18446744073709551616 := by
    have e1 := Int.mul_ediv_add_emod ys (2 ^ t)
    rw [hyt] at e1
    obtain ⟨k, hk⟩ : ∃ k, ys / 2 ^ t = k := ⟨_, rfl⟩
    rw [hk] at e1
    have e64 : (18446744073709551616 : Int) = 2 ^ t * 2 ^ s := by
      show _ = tp t * tp s
      rw [← tp_add, show t + s = 64 by omega]
      rfl
    have hp : (0 : Int) < 2 ^ t := tp_pos t
    have : k < 2 ^ s := by
      rcases Int.lt_or_le k (2 ^ s) with h | h
      · exact h
      · have := Int.mul_le_mul_of_nonneg_left h (Int.le_of_lt hp)
        omega
    have := Int.mul_le_mul_of_nonneg_left (show k + 1 ≤ 2 ^ s by omega) (Int.le_of_lt hp)
    rw [Int.mul_add, Int.mul_one] at this
    omega
  rw [hr_]
  have HO : Keep (bits .or .u64 xs ys = xs + ys) := ⟨hor⟩
  have HX : Keep (nth l q = x) := ⟨hx⟩
  have HY : Keep (nth l (q + 1) = y) := ⟨hy⟩
  have hwr : IntKind.u64.wrap (y * 2 ^ t) = ys := by rw [IntKind.wrap_u64]; exact hys_
  clear hdw hq hs ht hp hx hy hr_ hyt hxt hwl hor
  rcases Nat.lt_or_ge q n with h1 | h1
  · obtain ⟨b1, o1, rfl, hlb1, hc1⟩ := hr.at_ (by omega)
    have c1 := hc1 q h1
    rw [HX.out] at c1
    rcases Nat.lt_or_ge (q + 1) n with h2 | h2
    · have c2 := hc1 (q + 1) h2
      rw [HY.out] at c2
      have hor := HO.out
      have htm : (xs + ys).tmod 128 = r := by rw [Int.tmod_eq_emod_of_nonneg (by omega)]; exact hdw'
      clear hc1
      go_enter Try.func50, Try.ntmps50
      go_wp2
      go_ret
      exact ⟨rfl, rfl⟩
    · have e0 : y = 0 := by rw [← HY.out]; exact nth_ge (by rw [HL.out]; exact h2)
      have e1 : ys = 0 := by rw [← hys_, e0, Int.zero_mul]; rfl
      rw [e1, Int.add_zero] at hdw'
      have htm : xs.tmod 128 = r := by rw [Int.tmod_eq_emod_of_nonneg hxs.1]; exact hdw'
      clear hc1 hsum
      go_enter Try.func50, Try.ntmps50
      go_wp2
      go_ret
      exact ⟨rfl, rfl⟩
  · have e0 : x = 0 := by rw [← HX.out]; exact nth_ge (by rw [HL.out]; exact h1)
    have e1 : xs = 0 := by rw [← hxs_, e0, Int.zero_ediv]
    have e2 : y = 0 := by rw [← HY.out]; exact nth_ge (by rw [HL.out]; omega)
    have e3 : ys = 0 := by rw [← hys_, e2, Int.zero_mul]; rfl
    rw [e1, e3] at hdw'
    have e4 : r = 0 := by omega
    rw [e4]
    have h2 : ¬ q + 1 < n := by omega
    clear hsum hdw' e1 e3 hxs_ hys_ e0 e2
    go_enter Try.func50, Try.ntmps50
    go_wp2
    go_ret
    exact ⟨rfl, rfl⟩

set_option maxRecDepth 100000 in
set_option maxHeartbeats 2000000 in
theorem digitAt_8 (A : Option Addr) (n c : Nat) (l : List Int) (B : Nat) (w : World) (hr : Rd w B A n .u64 l) (hwl : Words l) (hn : n ≤ 10000) (p : Nat) (hp : p ≤ 1000000) : Calls Try.prog 50 #[.slice A n c, .int .i64 (p : Int), .int .i64 8] w fun e w' => e = .returned (.int .i64 (num l / tp p % 256)) ∧ w = w' := by
  have HL : Keep _ := ⟨hr.len⟩
  obtain ⟨q, hq⟩ : ∃ q, p / 64 = q := ⟨_, rfl⟩
  obtain ⟨s, hs⟩ : ∃ s, p % 64 = s := ⟨_, rfl⟩
  obtain ⟨t, ht⟩ : ∃ t, 64 - s = t := ⟨_, rfl⟩
  have hqi : (p : Int) / 64 = (q : Int) := by omega
  have hsi : (p : Int) % 64 = (s : Int) := by omega
  have hti : 64 - (s : Int) = (t : Int) := by omega
  have hs64 : s < 64 := by omega
  have ht64 : 1 ≤ t ∧ t ≤ 64 := by omega
  have hq2 : q ≤ 20000 := by omega
  obtain ⟨x, hx⟩ : ∃ x, nth l q = x := ⟨_, rfl⟩
  obtain ⟨y, hy⟩ : ∃ y, nth l (q + 1) = y := ⟨_, rfl⟩
  have bx : 0 ≤ x ∧ x ≤ 18446744073709551615 := hx ▸ hwl q
  have by' : 0 ≤ y ∧ y ≤ 18446744073709551615 := hy ▸ hwl (q + 1)
  have hdw := dig_word hwl (q := q) (s := s) (W := 8) hs64 (by omega) hx hy
  rw [show 64 * q + s = p by omega, ht] at hdw
  have hxs := shr_bounds bx.1 bx.2 s
  obtain ⟨r, hr_⟩ : ∃ r, num l / tp p % 256 = r := ⟨_, rfl⟩
  have hdw' : (x / 2 ^ s + y * 2 ^ t % 18446744073709551616) % 256 = r := hdw.trans hr_
  have hr0 : 0 ≤ r ∧ r < 256 := by omega
  obtain ⟨xs, hxs_⟩ : ∃ xs, x / 2 ^ s = xs := ⟨_, rfl⟩
  obtain ⟨ys, hys_⟩ : ∃ ys, y * 2 ^ t % 18446744073709551616 = ys := ⟨_, rfl⟩
  have hxt : xs < 2 ^ t := by
    rw [← hxs_]
    refine Int.ediv_lt_of_lt_mul (tp_pos s) ?_
    have e64 : (2 : Int) ^ t * 2 ^ s = 18446744073709551616 := by
      show tp t * tp s = _
      rw [← tp_add, show t + s = 64 by omega]
      rfl
    show x < 2 ^ t * 2 ^ s
    omega
  have hys0 : 0 ≤ ys ∧ ys < 18446744073709551616 := by omega
  have hyt : ys % 2 ^ t = 0 := by
    have e64 : (18446744073709551616 : Int) = 2 ^ t * 2 ^ s := by
      show _ = tp t * tp s
      rw [← tp_add, show t + s = 64 by omega]
      rfl
    have e4 := Int.mul_ediv_add_emod (y * 2 ^ t) 18446744073709551616
    rw [hys_] at e4
    have : ys = 0 + 2 ^ t * (y - 2 ^ s * (y * 2 ^ t / 18446744073709551616)) := by
      obtain ⟨k, hk⟩ : ∃ k, y * 2 ^ t / 18446744073709551616 = k := ⟨_, rfl⟩
      rw [hk] at e4 ⊢
      rw [e64] at e4
      grind
    rw [this, Int.add_mul_emod_self_left]
    rfl
  rw [hxs_, hys_] at hdw'
  rw [hxs_] at hxs
  have hor := or_up t hxs.1 hxt (by omega) hys0.1 hyt hys0.2
  have hsum : xs + ys < 18446744073709551616 := by
    have e1 := Int.mul_ediv_add_emod ys (2 ^ t)
    rw [hyt] at e1
    obtain ⟨k, hk⟩ : ∃ k, ys / 2 ^ t = k := ⟨_, rfl⟩
    rw [hk] at e1
    have e64 : (18446744073709551616 : Int) = 2 ^ t * 2 ^ s := by
      show _ = tp t * tp s
      rw [← tp_add, show t + s = 64 by omega]
      rfl
    have hp : (0 : Int) < 2 ^ t := tp_pos t
    have : k < 2 ^ s := by
      rcases Int.lt_or_le k (2 ^ s) with h | h
      · exact h
      · have := Int.mul_le_mul_of_nonneg_left h (Int.le_of_lt hp)
        omega
    have := Int.mul_le_mul_of_nonneg_left (show k + 1 ≤ 2 ^ s by omega) (Int.le_of_lt hp)
    rw [Int.mul_add, Int.mul_one] at this
    omega
  rw [hr_]
  have HO : Keep (bits .or .u64 xs ys = xs + ys) := ⟨hor⟩
  have HX : Keep (nth l q = x) := ⟨hx⟩
  have HY : Keep (nth l (q + 1) = y) := ⟨hy⟩
  have hwr : IntKind.u64.wrap (y * 2 ^ t) = ys := by rw [IntKind.wrap_u64]; exact hys_
  clear hdw hq hs ht hp hx hy hr_ hyt hxt hwl hor
  rcases Nat.lt_or_ge q n with h1 | h1
  · obtain ⟨b1, o1, rfl, hlb1, hc1⟩ := hr.at_ (by omega)
    have c1 := hc1 q h1
    rw [HX.out] at c1
    rcases Nat.lt_or_ge (q + 1) n with h2 | h2
    · have c2 := hc1 (q + 1) h2
      rw [HY.out] at c2
      have hor := HO.out
      have htm : (xs + ys).tmod 256 = r := by rw [Int.tmod_eq_emod_of_nonneg (by omega)]; exact hdw'
      clear hc1
      go_enter Try.func50, Try.ntmps50
      go_wp2
      go_ret
      exact ⟨rfl, rfl⟩
    · have e0 : y = 0 := by rw [← HY.out]; exact nth_ge (by rw [HL.out]; exact h2)
      have e1 : ys = 0 := by rw [← hys_, e0, Int.zero_mul]; rfl
      rw [e1, Int.add_zero] at hdw'
      have htm : xs.tmod 256 = r := by rw [Int.tmod_eq_emod_of_nonneg hxs.1]; exact hdw'
      clear hc1 hsum
      go_enter Try.func50, Try.ntmps50
      go_wp2
      go_ret
      exact ⟨rfl, rfl⟩
  · have e0 : x = 0 := by rw [← HX.out]; exact nth_ge (by rw [HL.out]; exact h1)
    have e1 : xs = 0 := by rw [← hxs_, e0, Int.zero_ediv]
    have e2 : y = 0 := by rw [← HY.out]; exact nth_ge (by rw [HL.out]; omega)
    have e3 : ys = 0 := by rw [← hys_, e2, Int.zero_mul]; rfl
    rw [e1, e3] at hdw'
    have e4 : r = 0 := by omega
    rw [e4]
    have h2 : ¬ q + 1 < n := by omega
    clear hsum hdw' e1 e3 hxs_ hys_ e0 e2
    go_enter Try.func50, Try.ntmps50
    go_wp2
    go_ret
    exact ⟨rfl, rfl⟩

end Go.Proofs.Ythaoebamnlmfpaa.Fr
