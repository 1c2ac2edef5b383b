/-
  Own text. The contracts of package limb: a guess at a quotient; a number shifted up; a number without noughts at its top.
-/
import Derived.Test.YtpgphhinelljoaaDoorLimbOwnG
import Derived.Test.YtpgphhinelljoaaDoorDiv64
namespace Go.Proofs.YtpgphhinelljoaaDoor.Limb
open Go Go.RowKit Go.Proofs.YtpgphhinelljoaaDoor.Reg Go.Proofs.YtpgphhinelljoaaDoor.Base Go.Proofs.YtpgphhinelljoaaDoor.Bits

set_option maxRecDepth 100000 in
set_option maxHeartbeats 2000000 in
theorem guess_c (P : Option Addr) (m j cp : Nat) (pl : List Int) (D : Option Addr) (cd : Nat) (dv : List Int) (B B' : Nat) (w : World) (hp : Rd w B P (m + 1) .u64 pl) (hd : Rd w B' D m .u64 dv) (hwp : Words pl) (hwd : Words dv) (hB : B ≤ w.heap.size) (hB' : B' ≤ w.heap.size) (hj : j + 1 = m) (hm : m ≤ 10000) (htop : 9223372036854775808 ≤ nth dv j) :
    Calls Tryd.prog 90 #[.slice P (m + 1) cp, .slice D m cd] w fun e w' => ∃ q : Int, e = .returned (.int .u64 q) ∧ 0 ≤ q ∧ q ≤ 18446744073709551615 ∧ (nth dv j ≤ nth pl m → q = 18446744073709551615) ∧ (nth pl m < nth dv j → q = (nth pl m * 18446744073709551616 + nth pl j) / nth dv j) ∧ Below w.heap.size w w' := by
  obtain ⟨b1, o1, rfl, hlb1, hc1⟩ := hp.at_ (by omega)
  obtain ⟨b2, o2, rfl, hlb2, hc2⟩ := hd.at_ (by omega)
  have hi' := hc1 m (by omega)
  have lo' := hc1 j (by omega)
  have tp' := hc2 j (by omega)
  have bh := hwp m
  have bl := hwp j
  have bt := hwd j
  obtain ⟨hi, hhi⟩ : ∃ z, nth pl m = z := ⟨_, rfl⟩
  obtain ⟨lo, hlo⟩ : ∃ z, nth pl j = z := ⟨_, rfl⟩
  obtain ⟨top, htp⟩ : ∃ z, nth dv j = z := ⟨_, rfl⟩
  rw [hhi] at hi' bh
  rw [hlo] at lo' bl
  rw [htp] at tp' bt htop
  rw [hhi, hlo, htp]
  have hmj : (m : Int) - 1 = (j : Int) := by omega
  have K1 : Keep (∀ w', Below w.heap.size w w' → w'.cell? ⟨b1, o1 + m, none⟩ = some (.int .u64 hi) ∧ w'.cell? ⟨b1, o1 + j, none⟩ = some (.int .u64 lo) ∧ w'.cell? ⟨b2, o2 + j, none⟩ = some (.int .u64 top)) := ⟨fun w' hb => ⟨(hb.cell (p := ⟨b1, o1 + m, none⟩) (by show b1 < _; omega)).trans hi', (hb.cell (p := ⟨b1, o1 + j, none⟩) (by show b1 < _; omega)).trans lo', (hb.cell (p := ⟨b2, o2 + j, none⟩) (by show b2 < _; omega)).trans tp'⟩⟩
  clear hc1 hc2 hi' lo' tp' hhi hlo htp hp hd hwp hwd
  rcases Int.lt_or_le hi top with h1 | h1
  · have HQ : Keep (0 ≤ (hi * 18446744073709551616 + lo) / top ∧ (hi * 18446744073709551616 + lo) / top ≤ 18446744073709551615) := ⟨by
      refine ⟨Int.ediv_nonneg (by omega) (by omega), ?_⟩
      have : (hi * 18446744073709551616 + lo) / top < 18446744073709551616 := Int.ediv_lt_of_lt_mul (by omega) (by
        have h2 : (hi + 1) * 18446744073709551616 ≤ top * 18446744073709551616 := Int.mul_le_mul_of_nonneg_right (by omega) (by omega)
        omega)
      omega⟩
    have DV : Keep (∀ w : World, _) := ⟨fun w => div64_any hi lo top bh.1 h1 bl.1 bl.2 bt.2 w⟩
    have hn1 : ¬ top ≤ hi := by omega
    go_enter Tryd.func90, Tryd.ntmps90
    go_wp2
    refine wp_fam_all (by kernel_rfl) (by kernel_rfl) (fun I hI' fw hf hback => ?_)
    have c1 : ∀ j', (fw j').cell? ⟨b1, o1 + m, none⟩ = some (.int .u64 hi) := fun j' => (K1.out _ (hf j')).1
    have c2 : ∀ j', (fw j').cell? ⟨b1, o1 + j, none⟩ = some (.int .u64 lo) := fun j' => (K1.out _ (hf j')).2.1
    have c3 : ∀ j', (fw j').cell? ⟨b2, o2 + j, none⟩ = some (.int .u64 top) := fun j' => (K1.out _ (hf j')).2.2
    repeat (go_big_quiet_step (fail))
    refine wpQuiet_nil ?_
    intro w6 hb6
    clear c1 c2 c3 hf hback
    go_wp2_with (go_at_call 98
                 refine (DV.out _).mono ?_
                 rintro e w7 ⟨z, rfl, hb7⟩
                 have hbb7 := hb6.trans (hb7.mono hb6.size))
    go_ret
    exact ⟨_, rfl, HQ.out.1, HQ.out.2, fun h => absurd h (by omega), fun _ => rfl, hbb7⟩
  · go_enter Tryd.func90, Tryd.ntmps90
    go_wp2
    refine wp_fam_all (by kernel_rfl) (by kernel_rfl) (fun I hI' fw hf hback => ?_)
    have c1 : ∀ j', (fw j').cell? ⟨b1, o1 + m, none⟩ = some (.int .u64 hi) := fun j' => (K1.out _ (hf j')).1
    have c2 : ∀ j', (fw j').cell? ⟨b1, o1 + j, none⟩ = some (.int .u64 lo) := fun j' => (K1.out _ (hf j')).2.1
    have c3 : ∀ j', (fw j').cell? ⟨b2, o2 + j, none⟩ = some (.int .u64 top) := fun j' => (K1.out _ (hf j')).2.2
    repeat (go_big_quiet_step (fail))
    refine wpQuiet_nil ?_
    intro w6 hb6
    clear c1 c2 c3 hf hback
    go_wp2
    go_ret
    exact ⟨_, rfl, by omega, by omega, fun _ => rfl, fun h => absurd h (by omega), hb6⟩

/-- One word shifted: its part in its own place, and in the next. -/
theorem shift_step {a : List Int} (ha : Words a) {n k s : Nat} (hs : s ≤ 63) (hk : k < n) :
    0 ≤ nth (wd (n + 1) (low a k * 2 ^ s)) k ∧ nth (wd (n + 1) (low a k * 2 ^ s)) k < 2 ^ s ∧
    nth a k * 2 ^ s % 18446744073709551616 % 2 ^ s = 0 ∧ nth (wd (n + 1) (low a k * 2 ^ s)) k + nth a k * 2 ^ s % 18446744073709551616 ≤ 18446744073709551615 ∧
    ((wd (n + 1) (low a k * 2 ^ s)).set k (nth (wd (n + 1) (low a k * 2 ^ s)) k + nth a k * 2 ^ s % 18446744073709551616)).set (k + 1) (nth a k / 2 ^ (64 - s)) = wd (n + 1) (low a (k + 1) * 2 ^ s) := by
  have ba := low_bounds ha k
  have ba' := low_bounds ha (k + 1)
  have bx := ha k
  obtain ⟨e1, e2, e3⟩ := shl_parts bx.1 bx.2 hs
  have p1 : (0 : Int) < 2 ^ s := Int.pow_pos (by omega)
  have eW : (18446744073709551616 : Int) = 2 ^ s * 2 ^ (64 - s) := by rw [← Int.pow_add, show s + (64 - s) = 64 by omega]; rfl
  have p2 : (0 : Int) < 2 ^ (64 - s) := Int.pow_pos (by omega)
  have v0 : 0 ≤ low a k * 2 ^ s := Int.mul_nonneg ba.1 (by omega)
  have v1 : low a k * 2 ^ s < wp k * 2 ^ s := Int.mul_lt_mul_of_pos_right ba.2 p1
  have v0' : 0 ≤ low a (k + 1) * 2 ^ s := Int.mul_nonneg ba'.1 (by omega)
  have v1' : low a (k + 1) * 2 ^ s < wp (k + 1) * 2 ^ s := Int.mul_lt_mul_of_pos_right ba'.2 p1
  have hs64 : (2 : Int) ^ s < 18446744073709551616 := by
    have h1 : (2 : Int) ^ s * 2 ≤ 2 ^ s * 2 ^ (64 - s) := Int.mul_le_mul_of_nonneg_left (by
      obtain ⟨d, hd⟩ : ∃ d, 64 - s = d + 1 := ⟨63 - s, by omega⟩
      rw [hd, Int.pow_succ]
      have : (0 : Int) < 2 ^ d := Int.pow_pos (by omega)
      omega) (by omega)
    omega
  have w1 : wp k * 2 ^ s ≤ wp (k + 1) := by
    rw [wp_succ]
    exact Int.mul_le_mul_of_nonneg_left (by omega) (Int.le_of_lt (wp_pos k))
  have w2 : wp (k + 1) * 2 ^ s ≤ wp (k + 2) := by
    rw [wp_succ (k + 1)]
    exact Int.mul_le_mul_of_nonneg_left (by omega) (Int.le_of_lt (wp_pos (k + 1)))
  have w3 := wp_le (show k + 1 ≤ n + 1 by omega)
  have w4 := wp_le (show k + 2 ≤ n + 1 by omega)
  have pw := wp_pos k
  have d0 : 0 ≤ low a k * 2 ^ s / wp k := Int.ediv_nonneg v0 (by omega)
  have d1 : low a k * 2 ^ s / wp k < 2 ^ s := Int.ediv_lt_of_lt_mul pw (by rw [Int.mul_comm (2 ^ s)]; exact v1)
  have hz : nth (wd (n + 1) (low a k * 2 ^ s)) k = low a k * 2 ^ s / wp k := by rw [wd_nth _ (by omega), Int.emod_eq_of_lt d0 (by omega)]
  have hz1 : nth (wd (n + 1) (low a k * 2 ^ s)) (k + 1) = 0 := by rw [wd_nth _ (by omega), Int.ediv_eq_zero_of_lt v0 (by omega)]; rfl
  have hm1 : nth a k * 2 ^ s % 18446744073709551616 = 2 ^ s * (nth a k % 2 ^ (64 - s)) := by rw [eW, Int.mul_comm (nth a k), Int.mul_emod_mul_of_pos _ _ p1]
  have hm0 : nth a k * 2 ^ s % 18446744073709551616 % 2 ^ s = 0 := by rw [hm1, Int.mul_emod_right]
  have hm2 : nth a k * 2 ^ s % 18446744073709551616 ≤ 18446744073709551616 - 2 ^ s := by
    rw [hm1]
    have h1 := Int.emod_lt_of_pos (nth a k) p2
    have h2 : (2 : Int) ^ s * (nth a k % 2 ^ (64 - s)) ≤ 2 ^ s * (2 ^ (64 - s) - 1) := Int.mul_le_mul_of_nonneg_left (by omega) (by omega)
    rw [Int.mul_sub, ← eW, Int.mul_one] at h2
    exact h2
  have hm3 := Int.emod_nonneg (nth a k * 2 ^ s) (b := 18446744073709551616) (by omega)
  have hm4 : nth (wd (n + 1) (low a k * 2 ^ s)) k + nth a k * 2 ^ s % 18446744073709551616 ≤ 18446744073709551615 := by omega
  refine ⟨by omega, by omega, hm0, hm4, ?_⟩
  refine num_inj (words_set (words_set (wd_words _ _) (by omega) hm4) e2 (by omega)) (wd_words _ _) (by simp [wd_len]) ?_
  rw [num_set _ (by rw [List.length_set, wd_len]; omega), nth_set _ _ _ _ (by rw [wd_len]; omega), if_neg (by omega), hz1, num_set _ (by rw [wd_len]; omega), num_wd_of v0 (by omega), num_wd_of v0' (by omega), low_succ, wp_succ, Int.add_mul]
  have e4 : wp k * nth a k * 2 ^ s = wp k * (nth a k / 2 ^ (64 - s) * 18446744073709551616 + nth a k * 2 ^ s % 18446744073709551616) := by rw [← e1]; grind
  rw [e4]
  grind

set_option maxRecDepth 100000 in
set_option maxHeartbeats 4000000 in
theorem shiftedUp_c (A : Option Addr) (n c : Nat) (a : List Int) (s : Nat) (B : Nat) (w : World) (hr : Rd w B A n .u64 a) (hwa : Words a) (hs : s ≤ 63) (hB : B ≤ w.heap.size) (hn : n ≤ 10000) :
    Calls Tryd.prog 58 #[.slice A n c, .int .i64 (s : Nat)] w fun e w' => e = .returned (.slice (some ⟨w.heap.size, 0, none⟩) (n + 1) (n + 1)) ∧ Has w' w.heap.size 22 (vals .u64 (wd (n + 1) (num a * 2 ^ s))) ∧ Below w.heap.size w w' := by
  have LN : Keep _ := ⟨hr.len⟩
  have WA : Keep _ := ⟨hwa⟩
  obtain ⟨L, hL⟩ : ∃ L, n + 1 = L := ⟨_, rfl⟩
  have HL : Keep _ := ⟨hL⟩
  have hLi : (n : Int) + 1 = (L : Int) := by omega
  have hLb : L ≤ 10001 := by omega
  obtain ⟨t, ht⟩ : ∃ t, 64 - s = t := ⟨_, rfl⟩
  have hti : (64 : Int) - (s : Int) = (t : Int) := by omega
  have HTT : Keep _ := ⟨ht⟩
  have HSS : Keep _ := ⟨hs⟩
  have hmk : ∀ w, (Instr.makeSlice 41 (.int .i64 L) (.int .i64 L)).run Tryd.prog w = .ok (.slice (some ⟨w.heap.size, 0, none⟩) L L) (w.alloc (.cells (vals .u64 (List.replicate L 0)) 22)) := fun w => run_make_vals w _ _ .u64 Tryd.underlying41 u64Elem .i64 .i64 L (by omega) (by omega)
  rw [hL]
  have HB0 : List.replicate L 0 = wd L (low a 0 * 2 ^ s) := by
    have h0 := wd_num (n := L) (words_zeros L) (by simp)
    rw [num_zeros] at h0
    rw [low_zero, Int.zero_mul]
    exact h0.symm
  have hb0 : Below w.heap.size w (w.alloc (.cells (vals .u64 (List.replicate L 0)) 22)) := (Below.refl _ _).alloc (Nat.le_refl _) _
  have hD0 : Has (w.alloc (.cells (vals .u64 (List.replicate L 0)) 22)) w.heap.size 22 (vals .u64 (wd L (low a 0 * 2 ^ s))) := by rw [← HB0]; exact Has.new _ _ _
  clear HB0 hwa hL ht hs
  go_enter Tryd.func58, Tryd.ntmps58
  go_wp2
  go_loopw [14] (fun vi wr => ∃ k : Nat, k ≤ n ∧ vi = .int .i64 k ∧ Has wr w.heap.size 22 (vals .u64 (wd L (low a k * 2 ^ s))) ∧ Below w.heap.size w wr) (fun vi _ => n - (intOf vi).toNat)
  case atStart => exact ⟨0, Nat.zero_le _, rfl, hD0, hb0⟩
  case round =>
    clear hD0 hb0 hmk
    obtain ⟨k, hk, rfl, hD, hb⟩ := hrel
    by_cases hlt : k < n
    · obtain ⟨b1, o1, rfl, hlb1, hcs1⟩ := hr.at_ (by omega)
      obtain ⟨x, hx⟩ : ∃ x, nth a k = x := ⟨_, rfl⟩
      have bx : 0 ≤ x ∧ x ≤ 18446744073709551615 := hx ▸ WA.out k
      have ca : wr.cell? ⟨b1, o1 + k, none⟩ = some (.int .u64 x) := (hb.cell (p := ⟨b1, o1 + k, none⟩) (by show b1 < _; omega)).trans (by rw [hcs1 k hlt, hx])
      have st := shift_step WA.out (n := n) HSS.out hlt
      rw [HL.out, HTT.out, hx] at st
      obtain ⟨z, hz⟩ : ∃ z, nth (wd L (low a k * 2 ^ s)) k = z := ⟨_, rfl⟩
      obtain ⟨X, hX⟩ : ∃ X, x * 2 ^ s % 18446744073709551616 = X := ⟨_, rfl⟩
      rw [hz, hX] at st
      have hw1 : IntKind.u64.wrap (x * 2 ^ s) = X := by rw [IntKind.wrap_u64, hX]
      have hX0 : 0 ≤ X := by rw [← hX]; exact Int.emod_nonneg _ (by omega)
      have hor := or_up s st.1 st.2.1 (by omega) hX0 st.2.2.1 (by omega)
      have HST : Keep _ := ⟨st.2.2.2.2⟩
      have HZ : Keep _ := ⟨hz⟩
      have hLL : k + 1 < L := by have := HL.out; omega
      clear st hz hX hcs1 hx
      go_wp2
      refine wp_fam 9 (by kernel_rfl) (by kernel_rfl) (fun I hI' fw hf hback => ?_)
      simp only [List.take_succ_cons, List.take_zero, List.drop_succ_cons, List.drop_zero]
      have c1 : ∀ j, (fw j).cell? ⟨w.heap.size, k, none⟩ = some (.int .u64 z) := fun j => by rw [← HZ.out]; exact (hD.keep (hf j)).val (by rw [wd_len]; omega)
      repeat (go_big_quiet_step (fail))
      refine wpQuiet_nil ?_
      intro w6 hb6
      have hD6 := hD.keep hb6
      have hbb6 := hb.trans (hb6.mono hb.size)
      have e0 := hD6.val (i := k) (by rw [wd_len]; omega)
      have z0 := hD6.frozen k
      have hD7 := hD6.set_ k (.int .u64 (z + X))
      rw [vals_set] at hD7
      have hb7 := hbb6.setCell (p := ⟨w.heap.size, k, none⟩) (Nat.le_refl _) (.int .u64 (z + X))
      have e1 := hD7.val (i := k + 1) (by rw [List.length_set, wd_len]; omega)
      have z1 := hD7.frozen (k + 1)
      have hD8 := hD7.set_ (k + 1) (.int .u64 (x / 2 ^ t))
      rw [vals_set, HST.out] at hD8
      have hb8 := hb7.setCell (p := ⟨w.heap.size, k + 1, none⟩) (Nat.le_refl _) (.int .u64 (x / 2 ^ t))
      clear c1 hf hback hD hD6 hD7 hb hb6 hbb6 hb7 ca
      go_wp2
      first
        | exact ⟨⟨k + 1, by omega, by go_num, hD8, hb8⟩, by simp [intOf]; omega⟩
        | (go_roundw
           case rel => exact ⟨k + 1, by omega, by go_num, hD8, hb8⟩
           case measure => simp [intOf]; omega)
    · obtain rfl : k = n := by omega
      rw [show low a k = num a by rw [← LN.out]; rfl] at hD
      go_wp2
      go_ret
      exact ⟨rfl, hD, hb⟩

set_option maxRecDepth 100000 in
set_option maxHeartbeats 2000000 in
theorem trimmed_c (A : Option Addr) (n c : Nat) (a : List Int) (B : Nat) (w : World) (hr : Rd w B A n .u64 a) (hn : n ≤ 10000) (hcap : n ≤ c) :
    Calls Tryd.prog 56 #[.slice A n c] w fun e w' => ∃ k, e = .returned (.slice A k c) ∧ k ≤ n ∧ num (a.take k) = num a ∧ (0 < k → nth a (k - 1) ≠ 0) ∧ w = w' := by
  have LN : Keep _ := ⟨hr.len⟩
  have H0 : Keep (num (a.take n) = num a) := ⟨by rw [take_all hr.len]⟩
  go_enter Tryd.func56, Tryd.ntmps56
  go_wp2
  go_loopg [0] 10001 (fun (gk : Nat) vs wr => ∃ k : Nat, k ≤ n ∧ k ≤ gk ∧ vs = .slice A k c ∧ Keep (num (a.take k) = num a) ∧ w = wr)
  case atStart => exact ⟨n, Nat.le_refl _, by omega, rfl, H0, rfl⟩
  case round =>
    obtain ⟨k, hk, hg, rfl, hE, rfl⟩ := hrel
    rcases k with _ | j
    · go_wp2
      go_ret
      exact ⟨0, rfl, Nat.zero_le _, hE.out, fun h => absurd h (by omega), rfl⟩
    · obtain ⟨b1, o1, rfl, hlb1, hcs1⟩ := hr.at_ (by omega)
      obtain ⟨z, hz⟩ : ∃ z, nth a j = z := ⟨_, rfl⟩
      have ca := hcs1 j (by omega)
      rw [hz] at ca
      have HT : a.take (j + 1) = a.take j ++ [z] := by rw [← hz]; exact take_succ_nth a (by rw [LN.out]; omega)
      have HT' : Keep _ := ⟨HT⟩
      have HZ : Keep _ := ⟨hz⟩
      clear HT hz hcs1
      by_cases h0 : z = 0
      · subst h0
        have hE' : Keep (num (a.take j) = num a) := ⟨by rw [← hE.out, HT'.out, num_snoc, Int.mul_zero, Int.add_zero]⟩
        obtain ⟨m, rfl⟩ : ∃ m, gk = m + 1 := ⟨gk - 1, by omega⟩
        go_wp2
        go_roundg m
        case measure => omega
        case rel => exact ⟨j, by omega, by omega, rfl, hE', by trivial⟩
      · have hzb : (z == 0) = false := by rw [beq_eq_false_iff_ne]; exact h0
        go_wp2
        go_ret
        exact ⟨j + 1, rfl, hk, hE.out, fun _ => by rw [Nat.add_sub_cancel, HZ.out]; exact h0, rfl⟩
end Go.Proofs.YtpgphhinelljoaaDoor.Limb
