/-
  Own text. The contracts of package limb: Octets, Words.
-/
import Derived.Test.YthaoebamnlmfpaaLimbOwnA
namespace Go.Proofs.Ythaoebamnlmfpaa.Limb
open Go Go.RowKit Go.Proofs.Ythaoebamnlmfpaa.Reg Go.Proofs.Ythaoebamnlmfpaa.Base

/-- A number's lowest k bytes, set at the end of N bytes. -/
def octT (a : List Int) (N k : Nat) : List Int := tab N fun j => if N ≤ j + k then num a / tp (8 * (N - 1 - j)) % 256 else 0
theorem octT_len (a : List Int) (N k : Nat) : (octT a N k).length = N := tab_len _ _
theorem octT_zero (a : List Int) (N : Nat) : octT a N 0 = List.replicate N 0 := by
  refine (tab_eq (by simp) fun j hj => ?_).symm
  rw [if_neg (by omega)]
  simp [nth, hj]
theorem octT_all (a : List Int) (N : Nat) : octT a N N = octL a N := by
  refine (tab_eq (octL_len a N) fun j hj => ?_).symm
  rw [if_pos (by omega), octL_nth a hj]
theorem octT_set {a : List Int} {N k q : Nat} (hk : k < N) (hq : N - 1 - k = q) {x : Int} (hx : x = num a / tp (8 * k) % 256) : (octT a N k).set q x = octT a N (k + 1) := by
  refine tab_set _ _ (by omega) ?_ (fun j hj hne => ?_)
  · rw [if_pos (by omega), show N - 1 - q = k by omega]; exact hx
  · by_cases h : N ≤ j + k
    · rw [if_pos h, if_pos (by omega)]
    · rw [if_neg h, if_neg (by omega)]

set_option maxRecDepth 100000 in
set_option maxHeartbeats 2000000 in
theorem octets_c (A : Option Addr) (n c : Nat) (a : List Int) (N : Nat) (B : Nat) (w : World) (hr : Rd w B A n .u64 a) (hwa : Words a) (hB : B ≤ w.heap.size) (_hn : n ≤ 10000) (hN : N ≤ 100000) :
    Calls Try.prog 46 #[.slice A n c, .int .i64 (N : Int)] w fun e w' => ∃ A'' c'', e = .returned (.slice A'' N c'') ∧ Frs w' w.heap.size A'' N .u8 (octL a N) ∧ Below w.heap.size w w' := by
  have LN : Keep _ := ⟨hr.len⟩
  have WA : Keep _ := ⟨hwa⟩
  clear hwa
  have hmk : ∀ w, (Instr.makeSlice 31 (.int .i64 N) (.int .i64 N)).run Try.prog w = .ok (.slice (some ⟨w.heap.size, 0, none⟩) N N) (w.alloc (.cells (vals .u8 (List.replicate N 0)) 5)) := fun w => run_make_vals w _ _ .u8 Try.underlying31 u8Elem .i64 .i64 N (by omega) (by omega)
  have hD : Has (w.alloc (.cells (vals .u8 (List.replicate N 0)) 5)) w.heap.size 5 (vals .u8 (octT a N 0)) := by rw [octT_zero]; exact Has.new _ _ _
  have hb : Below w.heap.size w (w.alloc (.cells (vals .u8 (List.replicate N 0)) 5)) := (Below.refl _ _).alloc (Nat.le_refl _) _
  go_enter Try.func46, Try.ntmps46
  go_wp2
  go_loopw [17] (fun vi wr => ∃ k : Nat, k ≤ N ∧ vi = .int .i64 k ∧ Has wr w.heap.size 5 (vals .u8 (octT a N k)) ∧ Below w.heap.size w wr) (fun vi _ => N - (intOf vi).toNat)
  case atStart => exact ⟨0, Nat.zero_le _, rfl, hD, hb⟩
  case round =>
    clear hD hb hmk
    obtain ⟨k, hk, rfl, hD, hb⟩ := hrel
    by_cases hlt : k < N
    · have hra := hr.keep hb hB
      obtain ⟨q, hq⟩ : ∃ q, N - 1 - k = q := ⟨_, rfl⟩
      have hqi : (N : Int) - 1 - (k : Int) = (q : Int) := by omega
      have hqN : q < N := by omega
      obtain ⟨y, hy⟩ : ∃ y, nth a (k / 8) = y := ⟨_, rfl⟩
      have by' : 0 ≤ y ∧ y ≤ 18446744073709551615 := hy ▸ WA.out (k / 8)
      have HY : Keep _ := ⟨hy⟩
      have HO : Keep ((octT a N k).set q (y / 2 ^ (8 * (k % 8)) % 256) = octT a N (k + 1)) := ⟨octT_set hlt hq (by rw [← oct_byte WA.out, hy])⟩
      have c0 := hD.val (i := q) (by rw [octT_len]; exact hqN)
      have z0 := hD.frozen q
      clear hy
      go_wp2_with (go_at_call 58; refine (wordAt_c A n c a B (k / 8) _ hra).mono ?_; rintro e w' ⟨rfl, rfl⟩; rw [HY.out])
      have h4 := hD.set_ q (.int .u8 (y / 2 ^ (8 * (k % 8)) % 256))
      rw [vals_set, HO.out] at h4
      have hb4 := hb.setCell (p := ⟨w.heap.size, q, none⟩) (Nat.le_refl _) (.int .u8 (y / 2 ^ (8 * (k % 8)) % 256))
      first
        | exact ⟨⟨k + 1, by omega, by go_num, h4, hb4⟩, by simp [intOf]; omega⟩
        | (go_roundw
           case rel => exact ⟨k + 1, by omega, by go_num, h4, hb4⟩
           case measure => simp [intOf]; omega)
    · obtain rfl : k = N := by omega
      rw [octT_all] at hD
      go_wp2
      go_ret
      refine ⟨some ⟨w.heap.size, 0, none⟩, k, rfl, ?_, hb⟩
      have := Own.of_has (base := w.heap.size) hD (Nat.le_refl _) (by rw [octL_len]; unfold maxLen; omega)
      rw [octL_len] at this
      exact Frs.of_own this

theorem octets_no (A : Option Addr) (n c : Nat) (N : Int) (w : World) (hN : N < 0) (_hlo : -9223372036854775808 ≤ N) :
    Calls Try.prog 46 #[.slice A n c, .int .i64 N] w fun e w' => ∃ A'' c'', e = .returned (.slice A'' 0 c'') ∧ Below w.heap.size w w' := by
  go_enter Try.func46, Try.ntmps46
  go_wp2
  go_ret
  exact ⟨none, 0, rfl, Below.refl _ _⟩

/-- The number of the last bytes, so many of n. -/
def ln (b : List Int) (n : Nat) : Nat → Int
  | 0 => 0
  | i + 1 => ln b n i + nth b (n - 1 - i) * tp (8 * i)
theorem ln_succ (b : List Int) (n i : Nat) : ln b n (i + 1) = ln b n i + nth b (n - 1 - i) * tp (8 * i) := rfl
theorem tp8_succ (i : Nat) : tp (8 * (i + 1)) = tp (8 * i) * 256 := by
  have e8 : tp 8 = 256 := rfl
  rw [Nat.mul_succ, tp_add, e8]
theorem ln_bounds {b : List Int} (h : Bytes b) (n : Nat) : ∀ i, 0 ≤ ln b n i ∧ ln b n i < tp (8 * i)
  | 0 => by simp [ln, tp_zero]
  | i + 1 => by
    have ih := ln_bounds h n i
    have hb := h (n - 1 - i)
    have p := tp_pos (8 * i)
    have h1 : nth b (n - 1 - i) * tp (8 * i) ≤ 255 * tp (8 * i) := Int.mul_le_mul_of_nonneg_right hb.2 (by omega)
    have h2 : 0 ≤ nth b (n - 1 - i) * tp (8 * i) := Int.mul_nonneg hb.1 (by omega)
    rw [ln_succ, tp8_succ]
    omega
theorem ln_eq (b : List Int) (n : Nat) : ∀ i, i ≤ n → bn b n = bn b (n - i) * tp (8 * i) + ln b n i
  | 0, _ => by simp [ln, tp_zero]
  | i + 1, h => by
    rw [ln_eq b n i (by omega), ln_succ, tp8_succ]
    obtain ⟨j, hj⟩ : ∃ j, n - i = j + 1 := ⟨n - i - 1, by omega⟩
    rw [hj, bn_succ, show n - (i + 1) = j by omega, show n - 1 - i = j by omega]
    grind
theorem ln_all (b : List Int) (n : Nat) : ln b n n = bn b n := by
  have := ln_eq b n n (Nat.le_refl _)
  rw [Nat.sub_self, show bn b 0 = 0 from rfl, Int.zero_mul] at this
  omega
theorem tp_le {i j : Nat} (h : i ≤ j) : tp i ≤ tp j := by
  obtain ⟨d, rfl⟩ : ∃ d, j = i + d := ⟨j - i, by omega⟩
  rw [tp_add]
  have h1 := tp_pos i
  have h2 := tp_pos d
  have : tp i * 1 ≤ tp i * tp d := Int.mul_le_mul_of_nonneg_left (by omega) (by omega)
  omega
theorem or_up {z x : Int} (s : Nat) (hz0 : 0 ≤ z) (hz : z < 2 ^ s) (hz1 : z < 18446744073709551616) (hx0 : 0 ≤ x) (hx : x % 2 ^ s = 0) (hx1 : x < 18446744073709551616) : bits .or .u64 z x = z + x := by
  have hc : bits .or .u64 z x = bits .or .u64 x z := by simp only [bits, BitVec.or_comm]
  rw [hc, bits_join .u64 64 (by decide) (fun n h0 h1 => by rw [IntKind.wrap_u64]; omega) s x z hx0 hx hx1 hz0 hz hz1, Int.add_comm]
theorem wln_room {b : List Int} (hb : Bytes b) {n k m : Nat} (hq : k / 8 < m) :
    0 ≤ nth (wd m (ln b n k)) (k / 8) ∧ nth (wd m (ln b n k)) (k / 8) < 2 ^ (8 * (k % 8)) ∧ 0 ≤ nth b (n - 1 - k) * 2 ^ (8 * (k % 8)) ∧ nth b (n - 1 - k) * 2 ^ (8 * (k % 8)) % 2 ^ (8 * (k % 8)) = 0 ∧ nth (wd m (ln b n k)) (k / 8) + nth b (n - 1 - k) * 2 ^ (8 * (k % 8)) ≤ 18446744073709551615 := by
  have h1 := ln_bounds hb n k
  have h2 := hb (n - 1 - k)
  obtain ⟨s, hs⟩ : ∃ s, 8 * (k % 8) = s := ⟨_, rfl⟩
  have ek : tp (8 * k) = wp (k / 8) * tp s := by rw [← tp_wp, ← tp_add]; congr 1; omega
  have pw := wp_pos (k / 8)
  have ps := tp_pos s
  have d0 : 0 ≤ ln b n k / wp (k / 8) := Int.ediv_nonneg h1.1 (by omega)
  have d1 : ln b n k / wp (k / 8) < tp s := Int.ediv_lt_of_lt_mul pw (by rw [Int.mul_comm, ← ek]; exact h1.2)
  have t8 : tp (s + 8) ≤ tp 64 := tp_le (by omega)
  have e64 : tp 64 = 18446744073709551616 := rfl
  have e8 : tp 8 = 256 := rfl
  rw [tp_add, e8, e64] at t8
  have hm : nth (wd m (ln b n k)) (k / 8) = ln b n k / wp (k / 8) := by
    rw [wd_nth _ hq, Int.emod_eq_of_lt d0 (by omega)]
  rw [hm, hs, show (2 : Int) ^ s = tp s from rfl]
  have h3 : nth b (n - 1 - k) * tp s ≤ 255 * tp s := Int.mul_le_mul_of_nonneg_right h2.2 (by omega)
  exact ⟨d0, d1, Int.mul_nonneg h2.1 (by omega), Int.mul_emod_left _ _, by omega⟩
theorem wln_step {b : List Int} (hb : Bytes b) {n k m : Nat} (hq : k / 8 < m) (hm : k + 1 ≤ 8 * m) :
    (wd m (ln b n k)).set (k / 8) (nth (wd m (ln b n k)) (k / 8) + nth b (n - 1 - k) * 2 ^ (8 * (k % 8))) = wd m (ln b n (k + 1)) := by
  have hr := wln_room hb (n := n) hq
  have h1 := ln_bounds hb n k
  have h2 := ln_bounds hb n (k + 1)
  have l1 : tp (8 * k) ≤ wp m := by rw [← tp_wp]; exact tp_le (by omega)
  have l2 : tp (8 * (k + 1)) ≤ wp m := by rw [← tp_wp]; exact tp_le (by omega)
  refine num_inj (words_set (wd_words _ _) (by omega) hr.2.2.2.2) (wd_words _ _) (by rw [List.length_set, wd_len, wd_len]) ?_
  rw [num_set _ (by rw [wd_len]; exact hq), num_wd_of h1.1 (by omega), num_wd_of h2.1 (by omega), ln_succ]
  have e3 : wp (k / 8) * 2 ^ (8 * (k % 8)) = tp (8 * k) := by
    rw [← tp_wp, show (2 : Int) ^ (8 * (k % 8)) = tp (8 * (k % 8)) from rfl, ← tp_add]; congr 1; omega
  rw [← e3]
  grind

set_option maxRecDepth 100000 in
set_option maxHeartbeats 2000000 in
theorem words_c (A : Option Addr) (n c : Nat) (b : List Int) (B : Nat) (w : World) (hr : Rd w B A n .u8 b) (hby : Bytes b) (hB : B ≤ w.heap.size) (hn : n ≤ 10000) :
    Calls Try.prog 43 #[.slice A n c] w fun e w' => ∃ A'' c'', e = .returned (.slice A'' ((n + 7) / 8) c'') ∧ Frs w' w.heap.size A'' ((n + 7) / 8) .u64 (wordsL b) ∧ Below w.heap.size w w' := by
  have LN : Keep _ := ⟨hr.len⟩
  have BY : Keep _ := ⟨hby⟩
  obtain ⟨m, hm⟩ : ∃ m, (n + 7) / 8 = m := ⟨_, rfl⟩
  have hmi : ((n : Int) + 8 - 1) / 8 = (m : Int) := by omega
  have hmb : n ≤ 8 * m ∧ m ≤ 20000 := by omega
  have HW : Keep (wordsL b = wd m (bn b n)) := ⟨by rw [wordsL, bnum, hr.len, hm]⟩
  have hmk : ∀ w, (Instr.makeSlice 39 (.int .i64 m) (.int .i64 m)).run Try.prog w = .ok (.slice (some ⟨w.heap.size, 0, none⟩) m m) (w.alloc (.cells (vals .u64 (List.replicate m 0)) 23)) := fun w => run_make_vals w _ _ .u64 Try.underlying39 u64Elem .i64 .i64 m (by omega) (by omega)
  rw [hm, HW.out]
  have HB0 : List.replicate m 0 = wd m (ln b n 0) := by
    have h0 := wd_num (n := m) (words_zeros m) (by simp)
    rw [num_zeros] at h0
    exact h0.symm
  clear hby hm
  have hb0 : Below w.heap.size w (w.alloc (.cells (vals .u64 (List.replicate m 0)) 23)) := (Below.refl _ _).alloc (Nat.le_refl _) _
  have hD0 : Has (w.alloc (.cells (vals .u64 (List.replicate m 0)) 23)) w.heap.size 23 (vals .u64 (wd m (ln b n 0))) := by rw [← HB0]; exact Has.new _ _ _
  clear HB0
  go_enter Try.func43, Try.ntmps43
  go_wp2
  go_loopw [13] (fun vi wr => ∃ k : Nat, k ≤ n ∧ vi = .int .i64 k ∧ Has wr w.heap.size 23 (vals .u64 (wd m (ln b n k))) ∧ Below w.heap.size w wr) (fun vi _ => n - (intOf vi).toNat)
  case atStart => exact ⟨0, Nat.zero_le _, rfl, hD0, hb0⟩
  case round =>
    clear hD0 hb0 hmk
    obtain ⟨k, hk, rfl, hD, hb⟩ := hrel
    by_cases hlt : k < n
    · obtain ⟨b1, o1, rfl, hlb1, hc1⟩ := hr.at_ (by omega)
      obtain ⟨q, hq⟩ : ∃ q, n - 1 - k = q := ⟨_, rfl⟩
      have hqi : (n : Int) - 1 - (k : Int) = (q : Int) := by omega
      have hqn : q < n := by omega
      have hkm : k / 8 < m := by omega
      have hrm := wln_room BY.out (n := n) hkm
      have HST : Keep _ := ⟨wln_step BY.out (n := n) hkm (by omega)⟩
      rw [hq] at hrm HST
      obtain ⟨x, hx⟩ : ∃ x, nth b q = x := ⟨_, rfl⟩
      obtain ⟨z, hz⟩ : ∃ z, nth (wd m (ln b n k)) (k / 8) = z := ⟨_, rfl⟩
      have hx0 : 0 ≤ x ∧ x ≤ 255 := hx ▸ BY.out q
      rw [hz, hx] at hrm HST
      have HC1 : Keep (∀ w1, Below w.heap.size w w1 → w1.cell? ⟨b1, o1 + q, none⟩ = some (.int .u8 x)) := ⟨fun w1 hb1 => (hb1.cell (p := ⟨b1, o1 + q, none⟩) (by show b1 < _; omega)).trans (by rw [hc1 _ (by omega), hx])⟩
      have HZ : Keep _ := ⟨hz⟩
      clear hc1 hz hx
      have hor := or_up (8 * (k % 8)) hrm.1 hrm.2.1 (by omega) hrm.2.2.1 hrm.2.2.2.1 (by omega)
      obtain ⟨s, hs⟩ : ∃ s, x * 2 ^ (8 * (k % 8)) = s := ⟨_, rfl⟩
      rw [hs] at hrm HST hor
      have hw1 : IntKind.u64.wrap s = s := by rw [IntKind.wrap_u64]; omega
      have hw0 : IntKind.u64.wrap x = x := by rw [IntKind.wrap_u64]; omega
      clear hrm
      go_wp2
      refine wp_fam 20 (by kernel_rfl) (by kernel_rfl) (fun I hI' fw hf hback => ?_)
      simp only [List.take_succ_cons, List.take_zero, List.drop_succ_cons, List.drop_zero]
      have q0 : ∀ j, (fw j).cell? ⟨w.heap.size, k / 8, none⟩ = some (.int .u64 z) := fun j => by rw [← HZ.out]; exact (hD.keep (hf j)).val (by rw [wd_len]; exact hkm)
      have q1 : ∀ j, (fw j).cell? ⟨b1, o1 + q, none⟩ = some (.int .u8 x) := fun j => HC1.out _ (hb.trans ((hf j).mono hb.size))
      repeat (go_big_quiet_step (fail))
      refine wpQuiet_nil ?_
      intro w2 hb2
      clear q0 q1 hf hback
      have hbb2 := hb.trans (hb2.mono hb.size)
      have hD2 := hD.keep hb2
      have c2 := hD2.val (i := k / 8) (by rw [wd_len]; exact hkm)
      have z2 := hD2.frozen (k / 8)
      have hD3 := hD2.set_ (k / 8) (.int .u64 (z + s))
      rw [vals_set, HST.out] at hD3
      have hb3 := hbb2.setCell (p := ⟨w.heap.size, k / 8, none⟩) (Nat.le_refl _) (.int .u64 (z + s))
      clear hD hD2 hb hb2 hbb2
      go_wp2
      first
        | exact ⟨⟨k + 1, by omega, by go_num, hD3, hb3⟩, by simp [intOf]; omega⟩
        | (go_roundw
           case rel => exact ⟨k + 1, by omega, by go_num, hD3, hb3⟩
           case measure => simp [intOf]; omega)
    · obtain rfl : k = n := by omega
      rw [ln_all] at hD
      go_wp2
      go_ret
      refine ⟨some ⟨w.heap.size, 0, none⟩, m, rfl, ?_, hb⟩
      have := Own.of_has (base := w.heap.size) hD (Nat.le_refl _) (by rw [wd_len]; unfold maxLen; omega)
      rw [wd_len] at this
      exact Frs.of_own this
end Go.Proofs.Ythaoebamnlmfpaa.Limb
