/-
  Own text. The contracts of layer 3's reference: Mul, Mod.
-/
import Derived.Test.YtnjkmheecmhlcaaLimbRef2
namespace Go.Proofs.Ytnjkmheecmhlcaa.Limb
open Go Go.RowKit Go.Proofs.Ytnjkmheecmhlcaa.Reg Go.Proofs.Ytnjkmheecmhlcaa.Base

/-- The k-th power of 2. -/
def tp (k : Nat) : Int := 2 ^ k
theorem tp_zero : tp 0 = 1 := rfl
theorem tp_succ (k : Nat) : tp (k + 1) = tp k * 2 := Int.pow_succ _ _
theorem tp_pos (k : Nat) : 0 < tp k := Int.pow_pos (by omega)
theorem tp_add (a b : Nat) : tp (a + b) = tp a * tp b := Int.pow_add _ _ _
theorem tp_wp (k : Nat) : tp (64 * k) = wp k := by
  induction k with
  | zero => rfl
  | succ k ih => rw [Nat.mul_succ, tp_add, ih, wp_succ]; rfl
theorem div_div {a b c : Int} (hb : 0 < b) : a / b / c = a / (b * c) := by
  rw [Int.ediv_ediv]
  rw [if_neg (by omega), Int.sub_zero]
/-- A number's i-th bit, and the number above it. -/
def bitL (l : List Int) (i : Nat) : Int := nth l (i / 64) / tp (i % 64) % 2
theorem low_div (l : List Int) (hw : Words l) (q d : Nat) : low l (q + 1 + d) / wp q % 18446744073709551616 = nth l q := by
  have h1 : ∃ z, low l (q + 1 + d) = low l q + wp q * (nth l q + 18446744073709551616 * z) := by
    induction d with
    | zero => exact ⟨0, by rw [Nat.add_zero, low_succ]; grind⟩
    | succ d ih =>
      obtain ⟨z, hz⟩ := ih
      refine ⟨z + wp d * nth l (q + 1 + d), ?_⟩
      rw [← Nat.add_assoc, low_succ, hz, wp_add, wp_succ]
      grind
  obtain ⟨z, hz⟩ := h1
  have hb := low_bounds hw q
  have hq := hw q
  rw [(split_of hb.1 hb.2 hz.symm).2]
  omega
theorem num_word (l : List Int) (hw : Words l) (q : Nat) : num l / wp q % 18446744073709551616 = nth l q := by
  rw [num_low (show l.length ≤ q + 1 + l.length by omega)]
  exact low_div l hw q _
theorem num_bit {l : List Int} (hw : Words l) (i : Nat) : num l / tp i % 2 = bitL l i := by
  have h := num_word l hw (i / 64)
  have hi : tp i = wp (i / 64) * tp (i % 64) := by rw [← tp_wp, ← tp_add]; congr 1; omega
  rw [bitL, ← h, hi, ← div_div (wp_pos _)]
  obtain ⟨v, hv⟩ : ∃ v, num l / wp (i / 64) = v := ⟨_, rfl⟩
  rw [hv]
  have hm : i % 64 < 64 := Nat.mod_lt _ (by omega)
  obtain ⟨d, hd⟩ : ∃ d, 63 = i % 64 + d := ⟨63 - i % 64, by omega⟩
  have hW : (18446744073709551616 : Int) = tp (i % 64) * (2 * tp d) := by
    have h64 : (18446744073709551616 : Int) = tp (i % 64 + (1 + d)) := by rw [show i % 64 + (1 + d) = 64 by omega]; rfl
    rw [tp_add, tp_add] at h64
    exact h64
  have e := Int.mul_ediv_add_emod v 18446744073709551616
  have b := Int.emod_nonneg v (b := 18446744073709551616) (by omega)
  have e2 := Int.mul_ediv_add_emod (v % 18446744073709551616) (tp (i % 64))
  have b2 := Int.emod_nonneg (v % 18446744073709551616) (Int.ne_of_gt (tp_pos (i % 64)))
  have b3 := Int.emod_lt_of_pos (v % 18446744073709551616) (tp_pos (i % 64))
  obtain ⟨r, hr⟩ : ∃ r, v % 18446744073709551616 % tp (i % 64) = r := ⟨_, rfl⟩
  obtain ⟨q, hq⟩ : ∃ q, v % 18446744073709551616 / tp (i % 64) = q := ⟨_, rfl⟩
  rw [hr, hq] at e2
  rw [hr] at b2 b3
  have e3 : r + tp (i % 64) * (q + 2 * (tp d * (v / 18446744073709551616))) = v := by
    rw [hW] at e e2 ⊢
    grind
  rw [(split_of b2 b3 e3).2, hq]
  omega
theorem num_shift (v : Int) (i : Nat) : v / tp i = 2 * (v / tp (i + 1)) + v / tp i % 2 := by
  rw [tp_succ, ← div_div (tp_pos i)]
  omega

theorem wd_twice (n : Nat) (v : Int) : wd n (2 * num (wd n v)) = wd n (2 * v) := wd_congr (by rw [num_wd, Int.mul_emod, Int.emod_emod, ← Int.mul_emod])
theorem wd_plus (n : Nat) (v x : Int) : wd n (num (wd n v) + x) = wd n (v + x) := wd_congr (by rw [num_wd, Int.emod_add_emod])
theorem and_one {x : Int} (h0 : 0 ≤ x) (h1 : x ≤ 18446744073709551615) : bits .and .u64 x 1 = x % 2 := by
  have h2 : x < 18446744073709551616 := by omega
  go_bits2
theorem shr_bounds {y : Int} (h0 : 0 ≤ y) (h1 : y ≤ 18446744073709551615) (k : Nat) : 0 ≤ y / 2 ^ k ∧ y / 2 ^ k ≤ 18446744073709551615 := by
  have hp : (0 : Int) < 2 ^ k := Int.pow_pos (by omega)
  refine ⟨Int.ediv_nonneg h0 (Int.le_of_lt hp), ?_⟩
  have := Int.ediv_le_self (2 ^ k) h0
  omega
theorem mul_step {x : Int} {b : List Int} (hb : Words b) (L i : Nat) : wd L (2 * (x * (num b / tp (i + 1))) + x * bitL b i) = wd L (x * (num b / tp i)) := by
  rw [num_shift (num b) i, num_bit hb]
  congr 1
  grind

set_option maxRecDepth 100000 in
set_option maxHeartbeats 2000000 in
theorem refMul_c (A : Option Addr) (n c : Nat) (a : List Int) (A' : Option Addr) (n' c' : Nat) (b : List Int) (B : Nat) (w : World) (hr : Rd w B A n .u64 a) (hwa : Words a) (hr' : Rd w B A' n' .u64 b) (hwb : Words b) (hB : B ≤ w.heap.size) (hn : n ≤ 10000) (hn' : n' ≤ 10000) :
    Calls Try.prog 20 #[.slice A n c, .slice A' n' c'] w fun e w' => ∃ A'' c'', e = .returned (.slice A'' (n + n') c'') ∧ Own w' w.heap.size 25 .u64 A'' (n + n') c'' (wd (n + n') (num a * num b)) ∧ Below w.heap.size w w' := by
  have LN : Keep _ := ⟨hr.len⟩
  have LN' : Keep _ := ⟨hr'.len⟩
  have WA : Keep _ := ⟨hwa⟩
  have WB : Keep _ := ⟨hwb⟩
  obtain ⟨L, hL⟩ : ∃ L, n + n' = L := ⟨_, rfl⟩
  have HL : Keep _ := ⟨hL⟩
  have hLb : L ≤ 20000 ∧ n ≤ L := by omega
  have hmk : ∀ w, (Instr.makeSlice 23 (.int .i64 L) (.int .i64 L)).run Try.prog w = .ok (.slice (some ⟨w.heap.size, 0, none⟩) L L) (w.alloc (.cells (vals .u64 (List.replicate L 0)) 25)) := fun w => run_make_vals w _ _ .u64 Try.underlying23 u64Elem .i64 .i64 L (by omega) (by omega)
  have hLi : (n : Int) + (n' : Int) = (L : Int) := by omega
  rw [hL]
  clear hwa hwb hL
  have hb0 : Below w.heap.size w (w.alloc (.cells (vals .u64 (List.replicate L 0)) 25)) := (Below.refl _ _).alloc (Nat.le_refl _) _
  have ho0 : Own (w.alloc (.cells (vals .u64 (List.replicate L 0)) 25)) w.heap.size 25 .u64 (some ⟨w.heap.size, 0, none⟩) L L (List.replicate L 0) := by
    have := Own.of_has (Has.new w 25 (vals .u64 (List.replicate L 0))) (Nat.le_refl _) (by simp [maxLen]; omega)
    simpa using this
  go_enter Try.func20, Try.ntmps20
  go_wp2
  have HB0 : Keep (List.replicate L 0 = wd L (num a * (num b / tp (64 * n')))) := ⟨by
    have hb := num_bounds WB.out
    rw [LN'.out] at hb
    rw [tp_wp, Int.ediv_eq_zero_of_lt hb.1 hb.2, Int.mul_zero]
    have h0 := wd_num (n := L) (words_zeros L) (by simp)
    rw [num_zeros] at h0
    exact h0.symm⟩
  go_loopw [5, 6] (fun vo vi wr => ∃ (k : Nat) (Ao : Option Addr) (co : Nat), k ≤ 64 * n' ∧ vi = .int .i64 ((k : Int) - 1) ∧ vo = .slice Ao L co ∧ Own wr w.heap.size 25 .u64 Ao L co (wd L (num a * (num b / tp k))) ∧ Below w.heap.size w wr) (fun _ vi _ => (intOf vi + 1).toNat)
  case atStart => exact ⟨64 * n', some ⟨w.heap.size, 0, none⟩, L, Nat.le_refl _, by go_num, rfl, by rw [← HB0.out]; exact ho0, hb0⟩
  case round =>
    clear ho0 hb0 hmk
    obtain ⟨k, Ao, co, hk, rfl, rfl, ho, hb⟩ := hrel
    rcases k with _ | i
    · rw [tp_zero, Int.ediv_one] at ho
      go_wp2
      go_ret
      exact ⟨Ao, co, rfl, ho, hb⟩
    · have e1 : ((i + 1 : Nat) : Int) - 1 = (i : Int) := by omega
      rw [e1]
      clear e1
      obtain ⟨b1, o1, rfl, hlb1, hc1⟩ := hr'.at_ (by omega)
      obtain ⟨y, hy⟩ : ∃ y, nth b (i / 64) = y := ⟨_, rfl⟩
      have by' : 0 ≤ y ∧ y ≤ 18446744073709551615 := hy ▸ WB.out (i / 64)
      have HY : Keep _ := ⟨hy⟩
      have hcell : ∀ w1, Below w.heap.size w w1 → w1.cell? ⟨b1, o1 + i / 64, none⟩ = some (.int .u64 y) := fun w1 hb1 => (hb1.cell (p := ⟨b1, o1 + i / 64, none⟩) (by show b1 < _; omega)).trans (by rw [hc1 _ (by omega), hy])
      have HC : Keep _ := ⟨hcell⟩
      clear hcell hy hc1
      have hyb : bitL b i = y / 2 ^ (i % 64) % 2 := by rw [bitL, HY.out]; rfl
      have hsb := shr_bounds by'.1 by'.2 (i % 64)
      have hand := and_one hsb.1 hsb.2
      have HT := wd_twice L (num a * (num b / tp (i + 1)))
      have HS := mul_step WB.out (x := num a) L i
      rcases (show y / 2 ^ (i % 64) % 2 = 0 ∨ y / 2 ^ (i % 64) % 2 = 1 by omega) with h2 | h2
      · have hbit : (bits .and .u64 (y / 2 ^ (i % 64)) 1 == 1) = false := by rw [hand, h2]; rfl
        rw [hyb, h2, Int.mul_zero, Int.add_zero] at HS
        have HX : Keep _ := ⟨HT.trans HS⟩
        clear hyb hsb hand h2 HT HS
        go_wp2_with (go_at_call 38
                     refine (refTwice_c Ao L co _ wr.heap.size _ ho.rd (wd_words _ _) (Nat.le_refl _) (by omega)).mono ?_
                     rintro e w1 ⟨A1, c1, rfl, ho1, hb1⟩
                     rw [HX.out] at ho1
                     have ho1' : Own w1 w.heap.size 25 .u64 A1 L c1 _ := ⟨World.ownsRow.mono ho1.own hb.size⟩
                     have hbb1 := hb.trans (hb1.mono hb.size)
                     have hcell := HC.out _ hbb1
                     clear ho hb1)
        first
          | exact ⟨⟨i, A1, c1, by omega, rfl, rfl, ho1', hbb1⟩, by simp [intOf]⟩
          | (go_roundw
             case rel => exact ⟨i, A1, c1, by omega, rfl, rfl, ho1', hbb1⟩
             case measure => simp [intOf])
      · have hbit : (bits .and .u64 (y / 2 ^ (i % 64)) 1 == 1) = true := by rw [hand, h2]; rfl
        rw [hyb, h2, Int.mul_one] at HS
        have HA : Keep (addL (wd L (2 * (num a * (num b / tp (i + 1))))) a = wd L (num a * (num b / tp i))) := ⟨by
          rw [addL, wd_len, LN.out, show max L n = L by omega, wd_plus, HS]⟩
        have HX : Keep _ := ⟨HT⟩
        have HML : Keep (max L n = L) := ⟨by omega⟩
        clear hyb hsb hand h2 HT HS
        go_wp2_with (first
          | (go_at_call 13
             refine (refAdd_c A1 L c1 (wd L (2 * (num a * (num b / tp (i + 1))))) A n c a w1.heap.size w1 ho1.rd (wd_words _ _) (hr1.more (Nat.le_trans hB hbb1.size)) WA.out (Nat.le_refl _) (by omega) (by omega)).mono ?_
             rintro e w2 ⟨A2, c2, rfl, ho2, hb2⟩
             rw [HA.out, HML.out] at ho2
             rw [HML.out]
             have ho2' : Own w2 w.heap.size 25 .u64 A2 L c2 _ := ⟨World.ownsRow.mono ho2.own hbb1.size⟩
             have hbb2 := hbb1.trans (hb2.mono hbb1.size)
             clear hb2 ho1)
          | (go_at_call 38
             refine (refTwice_c Ao L co _ wr.heap.size _ ho.rd (wd_words _ _) (Nat.le_refl _) (by omega)).mono ?_
             rintro e w1 ⟨A1, c1, rfl, ho1, hb1⟩
             rw [HX.out] at ho1
             have hbb1 := hb.trans (hb1.mono hb.size)
             have hcell := HC.out _ hbb1
             have hr1 := hr.keep hbb1 hB
             clear ho hb1))
        first
          | exact ⟨⟨i, A2, c2, by omega, rfl, rfl, ho2', hbb2⟩, by simp [intOf]⟩
          | (go_roundw
             case rel => exact ⟨i, A2, c2, by omega, rfl, rfl, ho2', hbb2⟩
             case measure => simp [intOf])
end Go.Proofs.Ytnjkmheecmhlcaa.Limb
