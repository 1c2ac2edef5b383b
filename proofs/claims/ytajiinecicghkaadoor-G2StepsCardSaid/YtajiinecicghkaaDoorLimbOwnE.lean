/-
  Own text. The contract of package limb: Mul.
-/
import Derived.Test.YtajiinecicghkaaDoorLimbOwnD
namespace Go.Proofs.YtajiinecicghkaaDoor.Limb
open Go Go.RowKit Go.Proofs.YtajiinecicghkaaDoor.Reg Go.Proofs.YtajiinecicghkaaDoor.Base Go.Proofs.YtajiinecicghkaaDoor.Bits

theorem prod_less {u v : Int} {i j : Nat} (u0 : 0 ≤ u) (u1 : u < wp i) (v0 : 0 ≤ v) (v1 : v < wp j) : 0 ≤ u * v ∧ u * v < wp (i + j) := by
  refine ⟨Int.mul_nonneg u0 v0, ?_⟩
  rw [wp_add]
  have h1 : u * v ≤ u * wp j := Int.mul_le_mul_of_nonneg_left (by omega) u0
  have h2 : u * wp j < wp i * wp j := Int.mul_lt_mul_of_pos_right u1 (wp_pos j)
  omega
theorem wp_le {i j : Nat} (h : i ≤ j) : wp i ≤ wp j := by
  obtain ⟨d, rfl⟩ : ∃ d, j = i + d := ⟨j - i, by omega⟩
  rw [wp_add]
  have h1 := wp_pos i
  have h2 := wp_pos d
  have : wp i * 1 ≤ wp i * wp d := Int.mul_le_mul_of_nonneg_left (by omega) (by omega)
  omega
/-- One row of a product. -/
theorem row_step {a b o l : List Int} {n n' i : Nat} {cy : Int} (ha : Words a) (hb : Words b) (_la : a.length = n) (lb : b.length = n') (hi : i < n) (hl : l = wd (n + n') (low a i * num b)) (ho : Words o) (lo : o.length = n') (hc0 : 0 ≤ cy) (hc1 : cy ≤ 18446744073709551615)
    (he : num o + wp n' * cy = low (l.drop i) n' + nth a i * low b n') : (l.take i ++ (o ++ l.drop (i + n'))).set (i + n') cy = wd (n + n') (low a (i + 1) * num b) := by
  have ll : l.length = n + n' := by rw [hl, wd_len]
  have wl : Words l := by rw [hl]; exact wd_words _ _
  have bb := num_bounds hb
  rw [lb] at bb
  have ba := low_bounds ha i
  have ba' := low_bounds ha (i + 1)
  have p1 := prod_less ba.1 ba.2 bb.1 bb.2
  have p2 := prod_less ba'.1 ba'.2 bb.1 bb.2
  have w1 := wp_le (show i + n' ≤ n + n' by omega)
  have w2 := wp_le (show i + 1 + n' ≤ n + n' by omega)
  have hz : nth l (i + n') = 0 := by rw [hl, wd_nth _ (by omega), Int.ediv_eq_zero_of_lt p1.1 p1.2]; rfl
  have hn : num l = low a i * num b := by rw [hl]; exact num_wd_of p1.1 (by omega)
  rw [mid_set lo (by omega)]
  refine num_inj (words_append (words_take wl _) (words_append (words_append ho (words_one hc0 hc1)) (words_drop wl _))) (wd_words _ _) (by simp [wd_len, lo, ll]; omega) ?_
  have lt : (l.take i).length = i := by simp [ll]; omega
  rw [num_wd_of p2.1 (by omega), num_append, lt, num_append, num_snoc, List.length_append, lo, List.length_singleton, low_succ, Int.add_mul, ← hn]
  have s1 : num l = num (l.take i) + wp i * num (l.drop i) := by
    have h := num_append (l.take i) (l.drop i)
    rw [List.take_append_drop, lt] at h
    exact h
  have s2 : num (l.drop i) = low (l.drop i) n' + wp n' * num (l.drop (i + n')) := by
    have h := num_split (l.drop i) n' (by simp [ll]; omega)
    rw [List.drop_drop] at h
    exact h
  have s3 : num (l.drop (i + n')) = 18446744073709551616 * num (l.drop (i + (n' + 1))) := by
    rw [num_drop (by omega), hz, Int.zero_add]; rfl
  have s4 : low b n' = num b := by rw [← lb]; rfl
  rw [s4] at he
  rw [s1, s2, s3, he, wp_succ]
  grind

set_option maxRecDepth 100000 in
set_option maxHeartbeats 2000000 in
theorem mul_c (A : Option Addr) (n c : Nat) (a : List Int) (A' : Option Addr) (n' c' : Nat) (b : List Int) (B : Nat) (w : World) (hr : Rd w B A n .u64 a) (hwa : Words a) (hr' : Rd w B A' n' .u64 b) (hwb : Words b) (hB : B ≤ w.heap.size) (hn : n ≤ 10000) (hn' : n' ≤ 10000) :
    Calls Tryd.prog 28 #[.slice A n c, .slice A' n' c'] w fun e w' => ∃ A'' c'', e = .returned (.slice A'' (n + n') c'') ∧ Frs w' w.heap.size A'' (n + n') .u64 (wd (n + n') (num a * num b)) ∧ Below w.heap.size w w' := by
  have LN : Keep _ := ⟨hr.len⟩
  have LN' : Keep _ := ⟨hr'.len⟩
  have WA : Keep _ := ⟨hwa⟩
  have WB : Keep _ := ⟨hwb⟩
  obtain ⟨L, hL⟩ : ∃ L, n + n' = L := ⟨_, rfl⟩
  have HL : Keep _ := ⟨hL⟩
  have hLi : (n : Int) + (n' : Int) = (L : Int) := by omega
  have hLb : L ≤ 20000 := by omega
  have hmk : ∀ w, (Instr.makeSlice 35 (.int .i64 L) (.int .i64 L)).run Tryd.prog w = .ok (.slice (some ⟨w.heap.size, 0, none⟩) L L) (w.alloc (.cells (vals .u64 (List.replicate L 0)) 23)) := fun w => run_make_vals w _ _ .u64 Tryd.underlying35 u64Elem .i64 .i64 L (by omega) (by omega)
  rw [hL]
  have HB0 : List.replicate L 0 = wd L (low a 0 * num b) := by
    have h0 := wd_num (n := L) (words_zeros L) (by simp)
    rw [num_zeros] at h0
    rw [low_zero, Int.zero_mul]
    exact h0.symm
  clear hwa hwb hL
  obtain ⟨S, hS⟩ : ∃ S, w.heap.size = S := ⟨_, rfl⟩
  have hb0 : Below S w (w.alloc (.cells (vals .u64 (List.replicate L 0)) 23)) := (Below.refl _ _).alloc (by omega) _
  have hD0 : Has (w.alloc (.cells (vals .u64 (List.replicate L 0)) 23)) S 23 (vals .u64 (wd L (low a 0 * num b))) := by rw [← HB0]; exact Has.new' _ hS.symm _ _
  clear HB0
  have HS : Keep _ := ⟨hS⟩
  rw [hS] at hB
  go_enter Tryd.func28, Tryd.ntmps28
  go_wp2
  go_loopw [16] (fun vi wr => ∃ k : Nat, k ≤ n ∧ vi = .int .i64 k ∧ Has wr S 23 (vals .u64 (wd L (low a k * num b))) ∧ Below S w wr) (fun vi _ => n - (intOf vi).toNat)
  case atStart => exact ⟨0, Nat.zero_le _, rfl, hD0, hb0⟩
  case round =>
    clear hD0 hb0 hmk
    obtain ⟨k, hk, rfl, hD, hb⟩ := hrel
    by_cases hlt : k < n
    · obtain ⟨b1, o1, rfl, hlb1, hcs1⟩ := hr.at_ (by omega)
      obtain ⟨x, hx⟩ : ∃ x, nth a k = x := ⟨_, rfl⟩
      have bx : 0 ≤ x ∧ x ≤ 18446744073709551615 := hx ▸ WA.out k
      have hrb := hr'.keep hb hB
      have ca : wr.cell? ⟨b1, o1 + k, none⟩ = some (.int .u64 x) := (hb.cell (p := ⟨b1, o1 + k, none⟩) (by show b1 < S; omega)).trans (by rw [hcs1 k hlt, hx])
      have HX : Keep _ := ⟨hx⟩
      obtain ⟨l, hl⟩ : ∃ l, wd L (low a k * num b) = l := ⟨_, rfl⟩
      have HLL : Keep (l = wd (n + n') (low a k * num b)) := ⟨by rw [← hl, HL.out]⟩
      have WL : Keep (Words l ∧ l.length = L) := ⟨by rw [← hl]; exact ⟨wd_words _ _, wd_len _ _⟩⟩
      rw [hl] at hD
      clear hx hcs1 hl
      go_wp2_with (go_at_call 53
                   refine (addTimes_c S k n' _ (some ⟨S, k, none⟩) l A' c' b x B wr hD WL.out.1 (by have := WL.out.2; omega) (fun _ => rfl) hrb WB.out hB bx.1 bx.2 hn').mono ?_
                   rintro e w2 ⟨cy, o, rfl, hc0, hc1, hD2, hwo, hlo, hE, hon⟩
                   have hbb2 := hb.trans (hon.below (Nat.le_refl S) (by have := hb.size; have := HS.out; omega))
                   have HE : Keep _ := ⟨hE⟩
                   have HO : Keep (Words o ∧ o.length = n') := ⟨hwo, hlo⟩
                   have hkl : k + n' < L := by have := HL.out; omega
                   have c0 := hD2.val (i := k + n') (by rw [mid_len hlo (by have := WL.out.2; omega)]; have := WL.out.2; omega)
                   have z0 := hD2.frozen (k + n')
                   clear hD hE hb hon hrb hwo hlo)
      have h4 := hD2.set_ (k + n') (.int .u64 cy)
      rw [vals_set, row_step WA.out WB.out LN.out LN'.out hlt HLL.out HO.out.1 HO.out.2 hc0 hc1 (by rw [HX.out]; exact HE.out), HL.out] at h4
      have hb4 := hbb2.setCell (p := ⟨S, k + n', none⟩) (Nat.le_refl _) (.int .u64 cy)
      first
        | exact ⟨⟨k + 1, by omega, by go_num, h4, hb4⟩, by simp [intOf]; omega⟩
        | (go_roundw
           case rel => exact ⟨k + 1, by omega, by go_num, h4, hb4⟩
           case measure => simp [intOf]; omega)
    · obtain rfl : k = n := by omega
      rw [show low a k = num a by rw [← LN.out]; rfl] at hD
      go_wp2
      go_ret
      refine ⟨some ⟨S, 0, none⟩, L, rfl, ?_, by rw [HS.out]; exact hb⟩
      have := Own.of_has (base := w.heap.size) hD (by have := HS.out; omega) (by rw [wd_len]; unfold maxLen; omega)
      rw [wd_len] at this
      exact Frs.of_own this
end Go.Proofs.YtajiinecicghkaaDoor.Limb
