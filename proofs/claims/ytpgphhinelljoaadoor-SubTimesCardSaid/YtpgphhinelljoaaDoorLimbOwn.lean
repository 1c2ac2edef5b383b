/-
  Own text. The contracts of package limb: Mod; with the others' texts, all of the package.
-/
import Derived.Test.YtpgphhinelljoaaDoorLimbOwnB
import Derived.Test.YtpgphhinelljoaaDoorLimbOwnI
namespace Go.Proofs.YtpgphhinelljoaaDoor.Limb
open Go Go.RowKit Go.Proofs.YtpgphhinelljoaaDoor.Reg Go.Proofs.YtpgphhinelljoaaDoor.Base Go.Proofs.YtpgphhinelljoaaDoor.Bits

/-- A number whose top word is not 0. -/
theorem top_num {m : List Int} (hw : Words m) {k j : Nat} (hl : m.length = k) (hj : j + 1 = k) : num m = low m j + wp j * nth m j ∧ 0 ≤ low m j ∧ low m j < wp j := by
  have b := low_bounds hw j
  refine ⟨by rw [num, hl, ← hj, low_succ], b.1, b.2⟩
/-- The divisor, shifted until its top bit is 1. -/
theorem shifted_div {m : List Int} (hw : Words m) {k j s : Nat} (hl : m.length = k) (hj : j + 1 = k) (h1 : 9223372036854775808 ≤ nth m j * 2 ^ s) (h2 : nth m j * 2 ^ s < 18446744073709551616) (hs : s ≤ 63) :
    num ((wd (k + 1) (num m * 2 ^ s)).take k) = num m * 2 ^ s ∧ 9223372036854775808 ≤ nth ((wd (k + 1) (num m * 2 ^ s)).take k) j ∧ wp j * 2 ^ s ≤ num m * 2 ^ s := by
  have t := top_num hw hl hj
  have p1 : (0 : Int) < 2 ^ s := Int.pow_pos (by omega)
  have pj := wp_pos j
  have eW : (18446744073709551616 : Int) = 2 ^ s * 2 ^ (64 - s) := by rw [← Int.pow_add, show s + (64 - s) = 64 by omega]; rfl
  have b := hw j
  have ht1 : 1 ≤ nth m j := by
    rcases Int.lt_or_le 0 (nth m j) with h | h
    · omega
    · have : nth m j = 0 := by omega
      rw [this, Int.zero_mul] at h1
      omega
  have ht2 : nth m j + 1 ≤ 2 ^ (64 - s) := by
    have : 2 ^ s * nth m j < 2 ^ s * 2 ^ (64 - s) := by rw [← eW, Int.mul_comm]; exact h2
    have := Int.lt_of_mul_lt_mul_left this (Int.le_of_lt p1)
    omega
  have u1 : num m < wp j * (nth m j + 1) := by rw [Int.mul_add, Int.mul_one]; omega
  have u2 : num m * 2 ^ s < wp j * (nth m j + 1) * 2 ^ s := Int.mul_lt_mul_of_pos_right u1 p1
  have u3 : wp j * (nth m j + 1) * 2 ^ s ≤ wp k := by
    rw [← hj, wp_succ, Int.mul_assoc]
    refine Int.mul_le_mul_of_nonneg_left ?_ (Int.le_of_lt pj)
    rw [eW, Int.mul_comm]
    exact Int.mul_le_mul_of_nonneg_left ht2 (Int.le_of_lt p1)
  have l1 : wp j * (nth m j * 2 ^ s) ≤ num m * 2 ^ s := by
    rw [← Int.mul_assoc]
    exact Int.mul_le_mul_of_nonneg_right (by omega) (Int.le_of_lt p1)
  have l0 : 0 ≤ num m * 2 ^ s := by
    have : 0 ≤ wp j * (nth m j * 2 ^ s) := Int.mul_nonneg (Int.le_of_lt pj) (by omega)
    omega
  have hu : num m * 2 ^ s < wp k := by omega
  rw [wd_take (by omega)]
  refine ⟨num_wd_of l0 hu, ?_, ?_⟩
  · rw [wd_nth _ (by omega)]
    have q1 : 9223372036854775808 ≤ num m * 2 ^ s / wp j := Int.le_ediv_of_mul_le pj (by
      have : wp j * 9223372036854775808 ≤ wp j * (nth m j * 2 ^ s) := Int.mul_le_mul_of_nonneg_left h1 (Int.le_of_lt pj)
      rw [Int.mul_comm]; omega)
    have q2 : num m * 2 ^ s / wp j < 18446744073709551616 := Int.ediv_lt_of_lt_mul pj (by rw [← hj, wp_succ] at hu; omega)
    rw [Int.emod_eq_of_lt (by omega) q2]
    exact q1
  · have : wp j * 1 ≤ num m := by
      have : wp j * 1 ≤ wp j * nth m j := Int.mul_le_mul_of_nonneg_left ht1 (Int.le_of_lt pj)
      omega
    rw [Int.mul_one] at this
    exact Int.mul_le_mul_of_nonneg_right this (Int.le_of_lt p1)
/-- The dividend's top, as many words as the divisor has, is below it. -/
theorem shifted_high {a : List Int} (hw : Words a) {n k j s : Nat} (hl : a.length = n) (hj : j + 1 = k) {M : Int} (hM : wp j * 2 ^ s ≤ M) (hs : s ≤ 63) : num ((wd (n + 1) (num a * 2 ^ s)).drop (n + 1 - k)) < M := by
  have b := num_bounds hw
  rw [hl] at b
  have p1 : (0 : Int) < 2 ^ s := Int.pow_pos (by omega)
  have eW : (18446744073709551616 : Int) = 2 ^ s * 2 ^ (64 - s) := by rw [← Int.pow_add, show s + (64 - s) = 64 by omega]; rfl
  have p2 : (0 : Int) < 2 ^ (64 - s) := Int.pow_pos (by omega)
  have hsW : (2 : Int) ^ s ≤ 18446744073709551616 := by
    have : (2 : Int) ^ s * 1 ≤ 2 ^ s * 2 ^ (64 - s) := Int.mul_le_mul_of_nonneg_left (by omega) (Int.le_of_lt p1)
    omega
  have v0 : 0 ≤ num a * 2 ^ s := Int.mul_nonneg b.1 (Int.le_of_lt p1)
  have v1 : num a * 2 ^ s < wp n * 2 ^ s := Int.mul_lt_mul_of_pos_right b.2 p1
  have v2 : wp n * 2 ^ s ≤ wp (n + 1) := by rw [wp_succ]; exact Int.mul_le_mul_of_nonneg_left hsW (Int.le_of_lt (wp_pos n))
  have hn : num (wd (n + 1) (num a * 2 ^ s)) = num a * 2 ^ s := num_wd_of v0 (by omega)
  have sp := num_split (wd (n + 1) (num a * 2 ^ s)) (n + 1 - k) (by rw [wd_len]; omega)
  rw [hn] at sp
  have lb := low_bounds (wd_words (n + 1) (num a * 2 ^ s)) (n + 1 - k)
  have pw := wp_pos (n + 1 - k)
  rcases Nat.lt_or_ge (n + 1) k with h | h
  · have e : n + 1 - k = 0 := by omega
    rw [e, wp_zero, low_zero] at sp
    rw [e]
    have := wp_le (show n ≤ j by omega)
    have : wp n * 2 ^ s ≤ wp j * 2 ^ s := Int.mul_le_mul_of_nonneg_right this (Int.le_of_lt p1)
    omega
  · have e : wp n = wp (n + 1 - k) * wp j := by rw [← wp_add]; congr 1; omega
    rw [e, Int.mul_assoc] at v1
    have h3 : wp (n + 1 - k) * num ((wd (n + 1) (num a * 2 ^ s)).drop (n + 1 - k)) < wp (n + 1 - k) * (wp j * 2 ^ s) := by omega
    have := Int.lt_of_mul_lt_mul_left h3 (Int.le_of_lt pw)
    omega
/-- One word of a number shifted down. -/
theorem shr_word {R : List Int} (hw : Words R) {v : Int} {s t i : Nat} (hs : s + t = 64) (hv : num R = v * 2 ^ s) :
    0 ≤ nth R i / 2 ^ s ∧ nth R i / 2 ^ s < 2 ^ t ∧ nth R i / 2 ^ s < 18446744073709551616 ∧ nth R (i + 1) * 2 ^ t % 18446744073709551616 % 2 ^ t = 0 ∧ nth R i / 2 ^ s + nth R (i + 1) * 2 ^ t % 18446744073709551616 = v / wp i % 18446744073709551616 := by
  have p1 : (0 : Int) < 2 ^ s := Int.pow_pos (by omega)
  have p2 : (0 : Int) < 2 ^ t := Int.pow_pos (by omega)
  have eW : (18446744073709551616 : Int) = 2 ^ s * 2 ^ t := by rw [← Int.pow_add, hs]; rfl
  have x1 := num_word R hw i
  have x2 := num_word R hw (i + 1)
  have b1 := hw i
  have b2 := hw (i + 1)
  obtain ⟨u, hu⟩ : ∃ u, num R / wp i = u := ⟨_, rfl⟩
  have e2 : num R / wp (i + 1) = u / 18446744073709551616 := by rw [← hu, div_div (wp_pos i), wp_succ]
  rw [hu] at x1
  rw [e2] at x2
  have e3 : v / wp i = u / 2 ^ s := by
    rw [← hu, hv, div_div (wp_pos i), Int.mul_comm (wp i), ← div_div p1, Int.mul_ediv_cancel _ (Int.ne_of_gt p1)]
  have d0 : 0 ≤ nth R i / 2 ^ s := Int.ediv_nonneg b1.1 (Int.le_of_lt p1)
  have d1 : nth R i / 2 ^ s < 2 ^ t := Int.ediv_lt_of_lt_mul p1 (by rw [Int.mul_comm, ← eW]; omega)
  have hm1 : nth R (i + 1) * 2 ^ t % 18446744073709551616 = 2 ^ t * (nth R (i + 1) % 2 ^ s) := by rw [eW, Int.mul_comm (2 ^ s), Int.mul_comm (nth R (i + 1)), Int.mul_emod_mul_of_pos _ _ p2]
  have hm2 : 2 ^ t * (nth R (i + 1) % 2 ^ s) ≤ 18446744073709551616 - 2 ^ t := by
    have h1 := Int.emod_lt_of_pos (nth R (i + 1)) p1
    have h2 : (2 : Int) ^ t * (nth R (i + 1) % 2 ^ s) ≤ 2 ^ t * (2 ^ s - 1) := Int.mul_le_mul_of_nonneg_left (by omega) (Int.le_of_lt p2)
    rw [Int.mul_sub, Int.mul_comm (2 ^ t) (2 ^ s), ← eW, Int.mul_one] at h2
    exact h2
  have hm3 : 0 ≤ 2 ^ t * (nth R (i + 1) % 2 ^ s) := Int.mul_nonneg (Int.le_of_lt p2) (Int.emod_nonneg _ (Int.ne_of_gt p1))
  have p64 : (2 : Int) ^ t ≤ 18446744073709551616 := by
    have : (2 : Int) ^ t * 1 ≤ 2 ^ t * 2 ^ s := Int.mul_le_mul_of_nonneg_left (by omega) (Int.le_of_lt p2)
    rw [Int.mul_comm (2 ^ t) (2 ^ s), ← eW] at this
    omega
  refine ⟨d0, d1, by omega, by rw [hm1, Int.mul_emod_right], ?_⟩
  rw [hm1, e3]
  have q1 := Int.mul_ediv_add_emod u 18446744073709551616
  rw [x1] at q1
  obtain ⟨y, hy⟩ : ∃ y, u / 18446744073709551616 = y := ⟨_, rfl⟩
  rw [hy] at q1 x2
  have q2 : u / 2 ^ s = nth R i / 2 ^ s + 2 ^ t * y := by
    rw [← q1, eW, Int.mul_assoc, Int.add_comm, Int.add_mul_ediv_left _ _ (Int.ne_of_gt p1)]
  have q3 : y % 2 ^ s = nth R (i + 1) % 2 ^ s := by
    rw [← x2, eW, Int.emod_emod_of_dvd _ (Int.dvd_mul_right _ _)]
  have q4 : 2 ^ t * y % 18446744073709551616 = 2 ^ t * (nth R (i + 1) % 2 ^ s) := by rw [eW, Int.mul_comm (2 ^ s), Int.mul_emod_mul_of_pos _ _ p2, q3]
  rw [q2, Int.add_emod, q4, Int.emod_eq_of_lt d0 (by omega)]
  generalize 2 ^ t * (nth R (i + 1) % 2 ^ s) = X at *
  rw [Int.emod_eq_of_lt (by omega) (by omega)]

set_option maxRecDepth 100000 in
set_option maxHeartbeats 2000000 in
theorem mod_c (A : Option Addr) (n c : Nat) (a : List Int) (A' : Option Addr) (n' c' : Nat) (m : List Int) (B : Nat) (w : World) (hr : Rd w B A n .u64 a) (hwa : Words a) (hr' : Rd w B A' n' .u64 m) (hwm : Words m) (hB : B ≤ w.heap.size) (hn : n ≤ 10000) (hn' : n' ≤ 10000) (hcap : n' ≤ c') (hm : num m ≠ 0) :
    Calls Tryd.prog 28 #[.slice A n c, .slice A' n' c'] w fun e w' => ∃ A'' c'', e = .returned (.tuple #[.slice A'' n' c'', .int .i64 0]) ∧ Frs w' w.heap.size A'' n' .u64 (wd n' (num a % num m)) ∧ Below w.heap.size w w' := by
  have LA : Keep _ := ⟨hr.len⟩
  have WA : Keep _ := ⟨hwa⟩
  obtain ⟨M, hM⟩ : ∃ M, num m = M := ⟨_, rfl⟩
  have TR : Keep _ := ⟨trimmed_c A' n' c' m B w hr' hn' hcap⟩
  have TOP : Keep (∀ k j s : Nat, k ≤ n' → j + 1 = k → num (m.take k) = M → 9223372036854775808 ≤ nth m j * 2 ^ s → nth m j * 2 ^ s < 18446744073709551616 → s ≤ 63 →
      num ((wd (k + 1) (M * 2 ^ s)).take k) = M * 2 ^ s ∧ 9223372036854775808 ≤ nth ((wd (k + 1) (M * 2 ^ s)).take k) j ∧ num ((wd (n + 1) (num a * 2 ^ s)).drop (n + 1 - k)) < M * 2 ^ s) := ⟨fun k j s hk hj hn h1 h2 hs => by
    have hl : (m.take k).length = k := by rw [List.length_take, hr'.len]; omega
    have h := shifted_div (words_take hwm k) hl hj (by rw [nth_take (by omega)]; exact h1) (by rw [nth_take (by omega)]; exact h2) hs
    rw [hn] at h
    exact ⟨h.1, h.2.1, shifted_high hwa hr.len hj h.2.2 hs⟩⟩
  have KP : Keep (∀ k, num (m.take k) = M → 0 < k) := ⟨fun k h => by
    rcases Nat.eq_zero_or_pos k with h0 | h0
    · subst h0
      rw [List.take_zero, num_nil] at h
      omega
    · exact h0⟩
  have WT : Keep (∀ k, Words (m.take k)) := ⟨fun k => words_take hwm k⟩
  have WM : Keep _ := ⟨hwm⟩
  have RT : Keep (∀ k, k ≤ n' → Rd w B A' k .u64 (m.take k)) := ⟨fun k hk => hr'.take_ hk⟩
  rw [hM]
  rw [hM] at TR
  obtain ⟨V, hV⟩ : ∃ V, num a % M = V := ⟨_, rfl⟩
  have HVV : Keep _ := ⟨hV⟩
  rw [hV]
  clear hwa hwm hm hM hV
  go_enter Tryd.func28, Tryd.ntmps28
  have LB : Keep (B ≤ w.heap.size ∧ n ≤ 10000 ∧ n' ≤ 10000) := ⟨hB, hn, hn'⟩
  have hmk : ∀ w, (Instr.makeSlice 41 (.int .i64 n') (.int .i64 n')).run Tryd.prog w = .ok (.slice (some ⟨w.heap.size, 0, none⟩) n' n') (w.alloc (.cells (vals .u64 (List.replicate n' 0)) 22)) := fun w => run_make_vals w _ _ .u64 Tryd.underlying41 u64Elem .i64 .i64 n' (by omega) (by omega)
  go_wp2_with (first
    | (go_at_call 56
       refine TR.out.mono ?_
       rintro e w1 ⟨k, rfl, hk, hkn, hkt, rfl⟩
       have hk0 : 0 < k := KP.out k hkn
       have hkb : ((k : Int) == 0) = false := by rw [beq_eq_false_iff_ne]; omega
       have hkz : ¬ (k : Int) = 0 := by omega
       have hkz' : ¬ k = 0 := by omega
       obtain ⟨j, hj⟩ : ∃ j, j + 1 = k := ⟨k - 1, by omega⟩
       have hkj : (k : Int) - 1 = (j : Int) := by omega
       obtain ⟨b2, o2, rfl, hlb2, hcs2⟩ := hr'.at_ (by omega)
       obtain ⟨top, htop⟩ : ∃ z, nth m j = z := ⟨_, rfl⟩
       have ht0 : 0 < top ∧ top ≤ 18446744073709551615 := by
         have h1 := hkt hk0
         rw [show k - 1 = j by omega, htop] at h1
         have := WM.out j
         rw [htop] at this
         omega
       obtain ⟨s, hs, hs63, hy1, hy2⟩ := blen_spec ht0.1 ht0.2
       have ca : w.cell? ⟨b2, o2 + j, none⟩ = some (.int .u64 top) := by rw [hcs2 j (by omega), htop]
       have LZ : Keep _ := ⟨lz64_c top (by omega) ht0.2 s hs⟩
       have TP := TOP.out k j s hk hj hkn (by rw [htop]; exact hy1) (by rw [htop]; exact hy2) hs63
       have TP' : Keep _ := ⟨TP⟩
       have HKN : Keep (k ≤ n' ∧ num (m.take k) = M ∧ j + 1 = k ∧ s ≤ 63) := ⟨hk, hkn, hj, hs63⟩
       have hkc : k ≤ k + 1 := by omega
       clear TR TOP KP hkt hkn htop ht0 hy1 hy2 hs hcs2 TP hk0)
    | (go_at_call 57
       refine (LZ.out _).mono ?_
       rintro e w' ⟨rfl, rfl⟩
       have f0 := True.intro)
    | (have q1 := f1
       go_at_call 58
       refine (shiftedUp_c (some ⟨b2, o2, none⟩) k c' (m.take k) s B w1 ((RT.out k HKN.out.1).keep hb1 LB.out.1) (WT.out k) HKN.out.2.2.2 (by have := LB.out; have := hb1.size; omega) (by have := HKN.out; have := LB.out; omega)).mono ?_
       rintro e w2 ⟨rfl, hD2, hb2⟩
       rw [HKN.out.2.1] at hD2
       have hR2 := hR1.keep hb2
       have hbb2 := hb1.trans (hb2.mono hb1.size)
       have hl1 := hR1.lt
       clear q1 f1 hR1 hb1 hb2)
    | (go_at_call 58
       refine (shiftedUp_c A n c a s B w hr WA.out HKN.out.2.2.2 LB.out.1 LB.out.2.1).mono ?_
       rintro e w1 ⟨rfl, hR1, hb1⟩
       have f1 := True.intro)
    | (go_at_call 59
       refine (reduce_c w.heap.size w1.heap.size (n + 1) k j (k + 1) (wd (n + 1) (num a * 2 ^ s)) (wd (k + 1) (M * 2 ^ s)) _ (M * 2 ^ s) w2 hR2 (wd_words _ _) (wd_len _ _) hD2 (by omega) (wd_len _ _) rfl (words_take (wd_words _ _) _) TP'.out.1 HKN.out.2.2.1 TP'.out.2.1 TP'.out.2.2 (by have := LB.out; omega) (by have := LB.out; have := HKN.out; omega)).mono ?_
       rintro e w3 ⟨rfl, ⟨R', hR3, hwR, hlR, hnR⟩, hon⟩
       have hb3 := hbb2.trans (hon.below (Nat.le_refl _) hbb2.size)
       have HR : Keep (Words R' ∧ R'.length = n + 1 ∧ num R' = num (wd (n + 1) (num a * 2 ^ s)) % (M * 2 ^ s)) := ⟨hwR, hlR, hnR⟩
       clear hR2 hD2 hbb2 hwR hlR hnR hon))
  have hv : num R' = V * 2 ^ s := by
    have p1 : (0 : Int) < 2 ^ s := Int.pow_pos (by omega)
    have b := num_bounds WA.out
    rw [LA.out] at b
    have v0 : 0 ≤ num a * 2 ^ s := Int.mul_nonneg b.1 (Int.le_of_lt p1)
    have v1 : num a * 2 ^ s < wp n * 2 ^ s := Int.mul_lt_mul_of_pos_right b.2 p1
    have h64 : (2 : Int) ^ s ≤ 2 ^ 64 := tp_le (by omega)
    have v2 : wp n * 2 ^ s ≤ wp (n + 1) := by rw [wp_succ]; exact Int.mul_le_mul_of_nonneg_left h64 (Int.le_of_lt (wp_pos n))
    rw [HR.out.2.2, num_wd_of v0 (by omega), Int.mul_comm (num a), Int.mul_comm M, Int.mul_emod_mul_of_pos _ _ p1, HVV.out, Int.mul_comm]
  have HV : Keep _ := ⟨hv⟩
  obtain ⟨t, ht⟩ : ∃ t, s + t = 64 := ⟨64 - s, by omega⟩
  have hti : (64 : Int) - (s : Int) = (t : Int) := by omega
  have HT : Keep _ := ⟨ht⟩
  have hR4 := hR3.alloc (.cells (vals .u64 (List.replicate n' 0)) 22)
  have hD4 : Has (w3.alloc (.cells (vals .u64 (List.replicate n' 0)) 22)) w3.heap.size 22 (vals .u64 (padTo n' (wd 0 V))) := by
    rw [show wd 0 V = [] from rfl, padTo_nil]
    exact Has.new _ _ _
  have hb4 : Below w.heap.size w (w3.alloc (.cells (vals .u64 (List.replicate n' 0)) 22)) := hb3.alloc hb3.size _
  have hl3 := hR3.lt
  clear hv hR3 hb3 LZ ca hmk RT hlb2 hkb hkz hkz' hkj hk TP' HKN hkc f0 hl1 ht hj
  go_loopw [39] (fun vi wr => ∃ k : Nat, k ≤ n' ∧ vi = .int .i64 k ∧ Has wr w.heap.size 22 (vals .u64 R') ∧ Has wr w3.heap.size 22 (vals .u64 (padTo n' (wd k V))) ∧ Below w.heap.size w wr) (fun vi _ => n' - (intOf vi).toNat)
  case atStart => exact ⟨0, Nat.zero_le _, rfl, hR4, hD4, hb4⟩
  case round =>
    clear hR4 hD4 hb4
    obtain ⟨i, hi, rfl, hRr, hDd, hb⟩ := hrel
    by_cases hlt : i < n'
    · obtain ⟨x, hx⟩ : ∃ x, nth R' i = x := ⟨_, rfl⟩
      obtain ⟨y, hy⟩ : ∃ y, nth R' (i + 1) = y := ⟨_, rfl⟩
      have bx : 0 ≤ x ∧ x ≤ 18446744073709551615 := hx ▸ HR.out.1 i
      have by' : 0 ≤ y ∧ y ≤ 18446744073709551615 := hy ▸ HR.out.1 (i + 1)
      have sw := shr_word HR.out.1 (i := i) HT.out HV.out
      rw [hx, hy] at sw
      obtain ⟨X, hX⟩ : ∃ X, y * 2 ^ t % 18446744073709551616 = X := ⟨_, rfl⟩
      have hX0 : 0 ≤ X ∧ X < 18446744073709551616 := by rw [← hX]; omega
      have hwX : IntKind.u64.wrap (y * 2 ^ t) = X := by rw [IntKind.wrap_u64, hX]
      rw [hX] at sw
      obtain ⟨z, hz⟩ : ∃ z, x / 2 ^ s = z := ⟨_, rfl⟩
      rw [hz] at sw
      have hor := or_up t sw.1 sw.2.1 sw.2.2.1 hX0.1 sw.2.2.2.1 hX0.2
      have HW : Keep (wd i V ++ [z + X] = wd (i + 1) V) := ⟨by rw [wd_succ, sw.2.2.2.2]⟩
      have RR : Keep (∀ w', Has w' w.heap.size 22 (vals .u64 R') → Rd w' (w.heap.size + 1) (some ⟨w.heap.size, 0, none⟩) (n + 1) .u64 R') := ⟨fun w' h => Rd.of_has h (by omega) (by rw [List.drop_zero, take_all HR.out.2.1]) (by have := HR.out.2.1; omega)⟩
      have C1 : Keep (∀ w', Below wr.heap.size wr w' → Calls Tryd.prog 60 #[.slice (some ⟨w.heap.size, 0, none⟩) (n + 1) (n + 1), .int .i64 (i : Int)] w' fun e w'' => e = .returned (.int .u64 x) ∧ Below w'.heap.size w' w'') := ⟨fun w' hb' => by
        refine (wordAt_c _ (n + 1) (n + 1) R' _ i w' (RR.out w' (hRr.keep hb'))).mono ?_
        rintro e w'' ⟨rfl, rfl⟩
        exact ⟨by rw [hx], Below.refl _ _⟩⟩
      have C2 : Keep (∀ w', Below wr.heap.size wr w' → Calls Tryd.prog 60 #[.slice (some ⟨w.heap.size, 0, none⟩) (n + 1) (n + 1), .int .i64 ((i : Int) + 1)] w' fun e w'' => e = .returned (.int .u64 y) ∧ Below w'.heap.size w' w'') := ⟨fun w' hb' => by
        refine (wordAt_c _ (n + 1) (n + 1) R' _ (i + 1) w' (RR.out w' (hRr.keep hb'))).mono ?_
        rintro e w'' ⟨rfl, rfl⟩
        exact ⟨by rw [hy], Below.refl _ _⟩⟩
      clear sw hx hy hX hX0 bx by'
      go_wp2
      refine wp_fam 16 (by kernel_rfl) (by kernel_rfl) (fun I hI' fw hf hback => ?_)
      simp only [List.take_succ_cons, List.take_zero, List.drop_succ_cons, List.drop_zero]
      repeat (go_big_quiet_step (first | (go_at_call 60; with_reducible exact calls_fam hf hback (C1.out _ (hf _))) | (go_at_call 60; with_reducible exact calls_fam hf hback (C2.out _ (hf _)))))
      refine wpQuiet_nil ?_
      intro w6 hb6
      have hR6 := hRr.keep hb6
      have hD6 := hDd.keep hb6
      have hbb6 := hb.trans (hb6.mono hb.size)
      have e0 := hD6.val (i := i) (by rw [padTo_len (by rw [wd_len]; omega)]; exact hlt)
      have z0 := hD6.frozen i
      have h7 := hD6.set_ i (.int .u64 (z + X))
      rw [vals_set, padTo_set' (wd_len _ _) hlt, HW.out] at h7
      have hR7 := hR6.far (p := ⟨w3.heap.size, i, none⟩) (by show w.heap.size ≠ w3.heap.size; omega) (.int .u64 (z + X))
      have hb7 := hbb6.setCell (p := ⟨w3.heap.size, i, none⟩) (by show w.heap.size ≤ w3.heap.size; omega) (.int .u64 (z + X))
      clear hf hback hRr hDd hb hb6 hR6 hD6 hbb6 C1 C2
      go_wp2
      first
        | exact ⟨⟨i + 1, by omega, by go_num, hR7, h7, hb7⟩, by simp [intOf]; omega⟩
        | (go_roundw
           case rel => exact ⟨i + 1, by omega, by go_num, hR7, h7, hb7⟩
           case measure => simp [intOf]; omega)
    · obtain rfl : i = n' := by omega
      rw [padTo_full (wd_len _ _)] at hDd
      go_wp2
      go_ret2
      refine ⟨some ⟨w3.heap.size, 0, none⟩, i, rfl, ?_, hb⟩
      have := Own.of_has (base := w.heap.size) hDd (by omega) (by rw [wd_len]; unfold maxLen; have := LB.out; omega)
      rw [wd_len] at this
      exact Frs.of_own this
end Go.Proofs.YtpgphhinelljoaaDoor.Limb
