/-
  Own text. The contracts of layer 3's reference: Octets, Words.
-/
import Derived.Test.YthaoebamnlmfpaaLimbRef4
namespace Go.Proofs.Ythaoebamnlmfpaa.Limb
open Go Go.RowKit Go.Proofs.Ythaoebamnlmfpaa.Reg Go.Proofs.Ythaoebamnlmfpaa.Base

/-- Some bits of a word are those of the number. -/
theorem mod_div (v : Int) (s t d : Nat) : v % tp (s + t + d) / tp s % tp t = v / tp s % tp t := by
  have e := Int.mul_ediv_add_emod v (tp (s + t + d))
  obtain ⟨q, hq⟩ : ∃ q, v / tp (s + t + d) = q := ⟨_, rfl⟩
  obtain ⟨r, hr⟩ : ∃ r, v % tp (s + t + d) = r := ⟨_, rfl⟩
  rw [hq, hr] at e
  rw [hr]
  have h1 : v / tp s = r / tp s + tp t * (tp d * q) := by
    have e2 := Int.mul_ediv_add_emod r (tp s)
    have b2 := Int.emod_nonneg r (Int.ne_of_gt (tp_pos s))
    have b3 := Int.emod_lt_of_pos r (tp_pos s)
    refine (split_of b2 b3 ?_).2
    rw [← e, tp_add, tp_add]
    rw [← e2]
    grind
  rw [h1, Int.add_mul_emod_self_left]
theorem num_part {l : List Int} (hw : Words l) (q s t d : Nat) (h : s + t + d = 64) : nth l q / tp s % tp t = num l / tp (64 * q + s) % tp t := by
  have h0 := num_word l hw q
  have hW : (18446744073709551616 : Int) = tp (s + t + d) := by rw [h]; rfl
  rw [← h0, hW, mod_div, div_div (wp_pos _), ← tp_wp, ← tp_add]

/-- A number's n lowest bytes, the highest first. -/
def octL (a : List Int) (n : Nat) : List Int := tab n fun i => num a / tp (8 * (n - 1 - i)) % 256
theorem octL_len (a : List Int) (n : Nat) : (octL a n).length = n := tab_len _ _
theorem octL_nth (a : List Int) {n i : Nat} (h : i < n) : nth (octL a n) i = num a / tp (8 * (n - 1 - i)) % 256 := tab_nth _ h
theorem octL_bytes (a : List Int) (n : Nat) : Bytes (octL a n) := bytes_of _ fun i hi => by
  rw [octL_len] at hi
  rw [octL_nth a hi]
  omega
theorem oct_byte {a : List Int} (hw : Words a) (q : Nat) : nth a (q / 8) / 2 ^ (8 * (q % 8)) % 256 = num a / tp (8 * q) % 256 := by
  have h := num_part hw (q / 8) (8 * (q % 8)) 8 (56 - 8 * (q % 8)) (by omega)
  have e8 : tp 8 = 256 := rfl
  rw [e8, show 64 * (q / 8) + 8 * (q % 8) = 8 * q by omega] at h
  exact h

set_option maxRecDepth 100000 in
set_option maxHeartbeats 2000000 in
theorem refOctets_c (A : Option Addr) (n c : Nat) (a : List Int) (N : Nat) (B : Nat) (w : World) (hr : Rd w B A n .u64 a) (hwa : Words a) (hB : B ≤ w.heap.size) (_hn : n ≤ 100000) (hN : N ≤ 1000000) :
    Calls Try.prog 47 #[.slice A n c, .int .i64 (N : Int)] w fun e w' => ∃ A'' c'', e = .returned (.slice A'' N c'') ∧ Own w' w.heap.size 5 .u8 A'' N c'' (octL a N) ∧ Below w.heap.size w w' := by
  have LN : Keep _ := ⟨hr.len⟩
  have WA : Keep _ := ⟨hwa⟩
  clear hwa
  go_enter Try.func47, Try.ntmps47
  go_wp2
  go_loopw [5, 6] (fun vo vi wr => ∃ (k : Nat) (Ao : Option Addr) (co : Nat), k ≤ N ∧ vi = .int .i64 k ∧ vo = .slice Ao k co ∧ Own wr w.heap.size 5 .u8 Ao k co ((octL a N).take k) ∧ Below w.heap.size w wr) (fun _ vi _ => N - (intOf vi).toNat)
  case atStart => exact ⟨0, none, 0, Nat.zero_le _, rfl, rfl, own_none _ _ _ _, Below.refl _ _⟩
  case round =>
    obtain ⟨k, Ao, co, hk, rfl, rfl, ho, hb⟩ := hrel
    by_cases hlt : k < N
    · have hra := hr.keep hb hB
      obtain ⟨q, hq⟩ : ∃ q, N - 1 - k = q := ⟨_, rfl⟩
      have hqi : (N : Int) - 1 - (k : Int) = (q : Int) := by omega
      obtain ⟨y, hy⟩ : ∃ y, nth a (q / 8) = y := ⟨_, rfl⟩
      have by' : 0 ≤ y ∧ y ≤ 18446744073709551615 := hy ▸ WA.out (q / 8)
      have HY : Keep _ := ⟨hy⟩
      have HO : Keep ((octL a N).take k ++ [y / 2 ^ (8 * (q % 8)) % 256] = (octL a N).take (k + 1)) := ⟨by
        rw [take_succ_nth _ (by rw [octL_len]; exact hlt), octL_nth a hlt, hq, ← oct_byte WA.out, hy]⟩
      clear hy
      go_wp2_with (first
        | (go_at_call 52; refine (at_c A n c a B (q / 8) _ hra).mono ?_; rintro e w' ⟨rfl, rfl⟩; rw [HY.out])
        | (refine append_abs (by rfl) (.tmp 17) (.tmp 28) 31 (by rfl) w.heap.size 5 .u8 1 Try.underlying31 u8Elem Ao k co ((octL a N).take k) (by rfl) (ho.keep ((Below.refl _ _).alloc (Nat.le_refl _) _)) (wr.heap.size + 1) (some ⟨wr.heap.size, 0, none⟩) 1 1 [y / 2 ^ (8 * (q % 8)) % 256] (by rfl) (Rd.of_has (Has.new wr 5 (vals .u8 [y / 2 ^ (8 * (q % 8)) % 256])) (by omega) (by rfl) (by simp)) (k + 1) (by rfl) _ HO.out (by omega) (by unfold maxLen; omega) (by have := hb.size; simp; omega) ?_
           intro A2 c2 w2 ho2 hb2
           have hbb2 := (hb.alloc hb.size (.cells (vals .u8 [y / 2 ^ (8 * (q % 8)) % 256]) 5)).trans hb2))
      exact ⟨⟨k + 1, A2, c2, by omega, by go_num, rfl, ho2, hbb2⟩, by simp [intOf]; omega⟩
    · obtain rfl : k = N := by omega
      rw [take_all (octL_len _ _)] at ho
      go_wp2
      go_ret
      exact ⟨Ao, co, rfl, ho, hb⟩

theorem refOctets_no (a1 : Value) (N : Int) (w : World) (hN : N < 0) :
    Calls Try.prog 47 #[a1, .int .i64 N] w fun e w' => e = .returned (.slice none 0 0) ∧ Below w.heap.size w w' := by
  go_enter Try.func47, Try.ntmps47
  go_wp2
  go_loopw [5, 6] (fun vo vi wr => vi = .int .i64 0 ∧ vo = .slice none 0 0 ∧ Below w.heap.size w wr) (fun _ _ _ => 0)
  case atStart => exact ⟨rfl, rfl, Below.refl _ _⟩
  case round =>
    obtain ⟨rfl, rfl, hb⟩ := hrel
    go_wp2
    go_ret
    exact ⟨rfl, hb⟩

/-- The number of the first k bytes, the highest first. -/
def bn (b : List Int) : Nat → Int
  | 0 => 0
  | k + 1 => bn b k * 256 + nth b k
theorem bn_succ (b : List Int) (k : Nat) : bn b (k + 1) = bn b k * 256 + nth b k := rfl
def bnum (b : List Int) : Int := bn b b.length
theorem bn_bounds {b : List Int} (h : Bytes b) : ∀ k, 0 ≤ bn b k ∧ bn b k < tp (8 * k)
  | 0 => by simp [bn, tp_zero]
  | k + 1 => by
    have ih := bn_bounds h k
    have hb := h k
    have e8 : tp 8 = 256 := rfl
    rw [bn_succ, Nat.mul_succ, tp_add, e8]
    omega
/-- The number of bytes, in as few words as hold them. -/
def wordsL (b : List Int) : List Int := wd ((b.length + 7) / 8) (bnum b)

theorem words_fit {b : List Int} (hb : Bytes b) {k at_ m : Nat} (hm : k + 1 + at_ ≤ 8 * m) : bn b k * tp (8 * (at_ + 1)) + nth b k * tp (8 * at_) < wp m ∧ 0 ≤ bn b k * tp (8 * (at_ + 1)) := by
  have h1 := bn_bounds hb k
  have h2 := hb k
  have p := tp_pos (8 * at_)
  have e8 : tp 8 = 256 := rfl
  have e1 : tp (8 * (at_ + 1)) = tp (8 * at_) * 256 := by rw [Nat.mul_succ, tp_add, e8]
  have h3 : (bn b k + 1) * (tp (8 * at_) * 256) ≤ tp (8 * k) * (tp (8 * at_) * 256) := Int.mul_le_mul_of_nonneg_right (by omega) (by omega)
  have h4 : tp (8 * k) * (tp (8 * at_) * 256) = tp (8 * (k + 1 + at_)) := by rw [← e8, ← tp_add, ← tp_add]; congr 1; omega
  have h5 : nth b k * tp (8 * at_) ≤ 255 * tp (8 * at_) := Int.mul_le_mul_of_nonneg_right h2.2 (by omega)
  have h6 : tp (8 * (k + 1 + at_)) ≤ wp m := by
    rw [← tp_wp]
    obtain ⟨d, hd⟩ : ∃ d, 64 * m = 8 * (k + 1 + at_) + d := ⟨64 * m - 8 * (k + 1 + at_), by omega⟩
    rw [hd, tp_add]
    have := tp_pos d
    have h7 := tp_pos (8 * (k + 1 + at_))
    have h8 : tp (8 * (k + 1 + at_)) * 1 ≤ tp (8 * (k + 1 + at_)) * tp d := Int.mul_le_mul_of_nonneg_left (by omega) (by omega)
    omega
  refine ⟨?_, Int.mul_nonneg h1.1 (by omega)⟩
  rw [Int.add_mul, Int.one_mul] at h3
  rw [e1]
  omega
theorem word_room {b : List Int} (hb : Bytes b) {k at_ m : Nat} (hq : at_ / 8 < m) :
    0 ≤ nth (wd m (bn b k * tp (8 * (at_ + 1)))) (at_ / 8) ∧ nth (wd m (bn b k * tp (8 * (at_ + 1)))) (at_ / 8) + nth b k * 2 ^ (8 * (at_ % 8)) ≤ 18446744073709551615 := by
  have h1 := bn_bounds hb k
  have h2 := hb k
  obtain ⟨s, hs⟩ : ∃ s, 8 * (at_ % 8) = s := ⟨_, rfl⟩
  obtain ⟨d, hd⟩ : ∃ d, 56 = s + d := ⟨56 - s, by omega⟩
  have e8 : tp 8 = 256 := rfl
  have eW : (18446744073709551616 : Int) = tp (s + 8) * tp d := by rw [← tp_add, show s + 8 + d = 64 by omega]; rfl
  have ev : bn b k * tp (8 * (at_ + 1)) = wp (at_ / 8) * (tp (s + 8) * bn b k) := by
    rw [← tp_wp, show 8 * (at_ + 1) = 64 * (at_ / 8) + (s + 8) by omega, tp_add (64 * (at_ / 8))]
    grind
  rw [wd_nth _ hq, ev, Int.mul_ediv_cancel_left _ (Int.ne_of_gt (wp_pos _)), hs, show (2 : Int) ^ s = tp s from rfl]
  rw [show tp (s + 8) * bn b k % 18446744073709551616 = tp (s + 8) * (bn b k % tp d) by rw [eW, Int.mul_emod_mul_of_pos _ _ (tp_pos _)]]
  have b1 := Int.emod_nonneg (bn b k) (Int.ne_of_gt (tp_pos d))
  have b2 := Int.emod_lt_of_pos (bn b k) (tp_pos d)
  have p8 := tp_pos (s + 8)
  have p := tp_pos s
  have h3 : tp (s + 8) * (bn b k % tp d) ≤ tp (s + 8) * (tp d - 1) := Int.mul_le_mul_of_nonneg_left (by omega) (by omega)
  rw [Int.mul_sub, ← eW, Int.mul_one] at h3
  have h5 : nth b k * tp s ≤ 255 * tp s := Int.mul_le_mul_of_nonneg_right h2.2 (by omega)
  have e1 : tp (s + 8) = tp s * 256 := by rw [tp_add, e8]
  refine ⟨Int.mul_nonneg (by omega) b1, ?_⟩
  omega
theorem words_step {b : List Int} (hb : Bytes b) {k at_ m : Nat} (hq : at_ / 8 < m) (hm : k + 1 + at_ ≤ 8 * m) :
    (wd m (bn b k * tp (8 * (at_ + 1)))).set (at_ / 8) (nth (wd m (bn b k * tp (8 * (at_ + 1)))) (at_ / 8) + nth b k * 2 ^ (8 * (at_ % 8))) = wd m (bn b (k + 1) * tp (8 * at_)) := by
  have hr := word_room hb (k := k) hq
  have hf := words_fit hb hm
  have h2 := hb k
  have p := tp_pos (8 * at_)
  have e8 : tp 8 = 256 := rfl
  have ex : (0 : Int) ≤ nth b k * 2 ^ (8 * (at_ % 8)) := Int.mul_nonneg h2.1 (Int.le_of_lt (Int.pow_pos (by omega)))
  have en : bn b (k + 1) * tp (8 * at_) = bn b k * tp (8 * (at_ + 1)) + nth b k * tp (8 * at_) := by
    rw [bn_succ, Nat.mul_succ, tp_add, e8]; grind
  have ey : 0 ≤ nth b k * tp (8 * at_) := Int.mul_nonneg h2.1 (by omega)
  refine num_inj (words_set (wd_words _ _) (by omega) hr.2) (wd_words _ _) (by rw [List.length_set, wd_len, wd_len]) ?_
  rw [num_set _ (by rw [wd_len]; exact hq), num_wd_of hf.2 (by omega), num_wd_of (by omega) (by omega), en]
  have e3 : wp (at_ / 8) * 2 ^ (8 * (at_ % 8)) = tp (8 * at_) := by
    rw [← tp_wp, show (2 : Int) ^ (8 * (at_ % 8)) = tp (8 * (at_ % 8)) from rfl, ← tp_add]; congr 1; omega
  rw [← e3]
  grind

set_option maxRecDepth 100000 in
set_option maxHeartbeats 2000000 in
theorem refWords_c (A : Option Addr) (n c : Nat) (b : List Int) (B : Nat) (w : World) (hr : Rd w B A n .u8 b) (hby : Bytes b) (hB : B ≤ w.heap.size) (hn : n ≤ 100000) :
    Calls Try.prog 44 #[.slice A n c] w fun e w' => ∃ A'' c'', e = .returned (.slice A'' ((n + 7) / 8) c'') ∧ Own w' w.heap.size 23 .u64 A'' ((n + 7) / 8) c'' (wordsL b) ∧ Below w.heap.size w w' := by
  have LN : Keep _ := ⟨hr.len⟩
  have BY : Keep _ := ⟨hby⟩
  obtain ⟨m, hm⟩ : ∃ m, (n + 7) / 8 = m := ⟨_, rfl⟩
  have hmi : ((n : Int) + 7) / 8 = (m : Int) := by omega
  have hmb : n ≤ 8 * m ∧ m ≤ 20000 := by omega
  have HW : Keep (wordsL b = wd m (bn b n)) := ⟨by rw [wordsL, bnum, hr.len, hm]⟩
  have hmk : ∀ w, (Instr.makeSlice 39 (.int .i64 m) (.int .i64 m)).run Try.prog w = .ok (.slice (some ⟨w.heap.size, 0, none⟩) m m) (w.alloc (.cells (vals .u64 (List.replicate m 0)) 23)) := fun w => run_make_vals w _ _ .u64 Try.underlying39 u64Elem .i64 .i64 m (by omega) (by omega)
  rw [hm, HW.out]
  have HB0 : Keep (List.replicate m 0 = wd m (bn b 0 * tp (8 * n))) := ⟨by
    have h0 := wd_num (n := m) (words_zeros m) (by simp)
    rw [num_zeros] at h0
    rw [show bn b 0 = 0 from rfl, Int.zero_mul]
    exact h0.symm⟩
  clear hby hm
  have hb0 : Below w.heap.size w (w.alloc (.cells (vals .u64 (List.replicate m 0)) 23)) := (Below.refl _ _).alloc (Nat.le_refl _) _
  have ho0 : Own (w.alloc (.cells (vals .u64 (List.replicate m 0)) 23)) w.heap.size 23 .u64 (some ⟨w.heap.size, 0, none⟩) m m (List.replicate m 0) := by
    have := Own.of_has (Has.new w 23 (vals .u64 (List.replicate m 0))) (Nat.le_refl _) (by simp [maxLen]; omega)
    simpa using this
  go_enter Try.func44, Try.ntmps44
  go_wp2
  go_loopw [4] (fun vi wr => ∃ k : Nat, k ≤ n ∧ vi = .int .i64 k ∧ Own wr w.heap.size 23 .u64 (some ⟨w.heap.size, 0, none⟩) m m (wd m (bn b k * tp (8 * (n - k)))) ∧ Below w.heap.size w wr) (fun vi _ => n - (intOf vi).toNat)
  case atStart => exact ⟨0, Nat.zero_le _, rfl, by rw [Nat.sub_zero, ← HB0.out]; exact ho0, hb0⟩
  case round =>
    clear ho0 hb0 hmk
    obtain ⟨k, hk, rfl, ho, hb⟩ := hrel
    by_cases hlt : k < n
    · obtain ⟨b1, o1, rfl, hlb1, hc1⟩ := hr.at_ (by omega)
      obtain ⟨q, hq⟩ : ∃ q, n - 1 - k = q := ⟨_, rfl⟩
      have hqi : (n : Int) - 1 - (k : Int) = (q : Int) := by omega
      have hqm : q / 8 < m := by omega
      have hrm := word_room BY.out (k := k) hqm
      have HST : Keep _ := ⟨words_step BY.out (k := k) hqm (by omega)⟩
      rw [show n - k = q + 1 by omega] at ho
      obtain ⟨x, hx⟩ : ∃ x, nth b k = x := ⟨_, rfl⟩
      obtain ⟨z, hz⟩ : ∃ z, nth (wd m (bn b k * tp (8 * (q + 1)))) (q / 8) = z := ⟨_, rfl⟩
      have hx0 : 0 ≤ x ∧ x ≤ 255 := hx ▸ BY.out k
      rw [hz, hx] at hrm HST
      have hC1 : ∀ w1, Below w.heap.size w w1 → w1.cell? ⟨b1, o1 + k, none⟩ = some (.int .u8 x) := fun w1 hb1 => (hb1.cell (p := ⟨b1, o1 + k, none⟩) (by show b1 < _; omega)).trans (by rw [hc1 _ (by omega), hx])
      have HC1 : Keep _ := ⟨hC1⟩
      have HZ : Keep _ := ⟨hz⟩
      have HX : Keep _ := ⟨hx⟩
      clear hC1 hc1 hz hx
      obtain ⟨s, hs⟩ : ∃ s, x * 2 ^ (8 * (q % 8)) = s := ⟨_, rfl⟩
      have hs0 : 0 ≤ s := by rw [← hs]; exact Int.mul_nonneg hx0.1 (Int.le_of_lt (Int.pow_pos (by omega)))
      rw [hs] at hrm HST
      have hw1 : IntKind.u64.wrap s = s := by rw [IntKind.wrap_u64]; omega
      have hw2 : IntKind.u64.wrap (z + s) = z + s := by rw [IntKind.wrap_u64]; omega
      go_wp2
      refine wp_fam 20 (by kernel_rfl) (by kernel_rfl) (fun I hI' fw hf hback => ?_)
      simp only [List.take_succ_cons, List.take_zero, List.drop_succ_cons, List.drop_zero]
      have q0 : ∀ j, (fw j).cell? ⟨w.heap.size, q / 8, none⟩ = some (.int .u64 z) := fun j => by
        obtain ⟨g', hA, _, hlt1, _, hcs1, _⟩ := (ho.keep (hf j)).at_ (by omega)
        obtain rfl : w.heap.size = g' := by injection hA with hA; injection hA
        rw [hcs1 _ hqm, HZ.out]
      have q1 : ∀ j, (fw j).cell? ⟨b1, o1 + k, none⟩ = some (.int .u8 x) := fun j => HC1.out _ (hb.trans ((hf j).mono hb.size))
      repeat (go_big_quiet_step (fail))
      refine wpQuiet_nil ?_
      intro w2 hb2
      clear q0 q1 hf hback
      have hbb2 := hb.trans (hb2.mono hb.size)
      have ho2 := ho.keep hb2
      obtain ⟨g', hA, _, hlt2, _, hcs2, hfz2⟩ := ho2.at_ (by omega)
      obtain rfl : w.heap.size = g' := by injection hA with hA; injection hA
      have hcell := hcs2 _ hqm
      have hfr := hfz2 (q / 8)
      have ho3 := ho2.set_ hqm (z + s)
      rw [HST.out] at ho3
      have hb3 := hbb2.setCell (p := ⟨w.heap.size, q / 8, none⟩) (Nat.le_refl _) (.int .u64 (z + s))
      have HQ : Keep (n - (k + 1) = q) := ⟨by omega⟩
      clear hcs2 hfz2 ho2 hbb2 hA hb2 hb ho
      go_wp2
      have hrel : ∃ k' : Nat, k' ≤ n ∧ Value.int .i64 ((k : Int) + 1) = .int .i64 k' ∧ Own (w2.setCell ⟨w.heap.size, q / 8, none⟩ (.int .u64 (z + s))) w.heap.size 23 .u64 (some ⟨w.heap.size, 0, none⟩) m m (wd m (bn b k' * tp (8 * (n - k')))) ∧ Below w.heap.size w (w2.setCell ⟨w.heap.size, q / 8, none⟩ (.int .u64 (z + s))) := ⟨k + 1, by omega, by go_num, by rw [HQ.out]; exact ho3, hb3⟩
      first
        | exact ⟨hrel, by simp [intOf]; omega⟩
        | (go_roundw
           case rel => exact hrel
           case measure => simp [intOf]; omega)
    · obtain rfl : k = n := by omega
      rw [Nat.sub_self, Nat.mul_zero, tp_zero, Int.mul_one] at ho
      go_wp2
      go_ret
      exact ⟨_, _, rfl, ho, hb⟩
end Go.Proofs.Ythaoebamnlmfpaa.Limb
