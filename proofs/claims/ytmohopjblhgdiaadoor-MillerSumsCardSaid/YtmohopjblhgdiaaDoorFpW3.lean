/-
  Own text. A word times a number added to six words of a block: addTimes of package fp.
-/
import Derived.Test.YtmohopjblhgdiaaDoorFpW2
namespace Go.Proofs.YtmohopjblhgdiaaDoor.Fp
set_option linter.unusedVariables false
open Go Go.RowKit Go.Proofs.YtmohopjblhgdiaaDoor.Reg Go.Proofs.YtmohopjblhgdiaaDoor.Base Go.Proofs.YtmohopjblhgdiaaDoor.Limb Go.Proofs.YtmohopjblhgdiaaDoor.Bits

theorem mul_told (x y : Int) (hx : 0 ≤ x ∧ x ≤ 18446744073709551615) (hy : 0 ≤ y ∧ y ≤ 18446744073709551615) :
    ∃ h l : Int, Keep (∀ w, Calls Tryd.prog 77 #[.int .u64 x, .int .u64 y] w fun e w' => e = .returned (.tuple #[.int .u64 h, .int .u64 l]) ∧ w = w') ∧
      Keep (18446744073709551616 * h + l = x * y) ∧ (0 ≤ h ∧ h ≤ 18446744073709551615) ∧ (0 ≤ l ∧ l ≤ 18446744073709551615) := by
  have hp := word_prod hx.1 hx.2 hy.1 hy.2
  refine ⟨_, _, ⟨fun w => mul64_c x y hx.1 hx.2 hy.1 hy.2 w⟩, ⟨?_⟩, ?_, ?_⟩
  all_goals (generalize x * y = q at *; omega)
section
variable {w : World} {g off : Nat} {t : TypeId} {k : IntKind} {p l : List Int}
theorem at_off (h : Has w g t (vals k (p ++ l))) (hp : p.length = off) {i : Nat} (hi : i < l.length) : w.cell? ⟨g, off + i, none⟩ = some (.int k (nth l i)) := by
  have := h.val (i := off + i) (by rw [List.length_append]; omega)
  rw [this, nth_append_right _ _ _ (by omega), show off + i - p.length = i by omega]
theorem set_off (h : Has w g t (vals k (p ++ l))) (hp : p.length = off) (i : Nat) (v : Int) : Has (w.setCell ⟨g, off + i, none⟩ (.int k v)) g t (vals k (p ++ l.set i v)) := by
  have := h.set_ (off + i) (.int k v)
  rwa [vals_set, List.set_append_right _ _ (by omega), show off + i - p.length = i by omega] at this
end

theorem times_ar (N X Y : Int) (p0 h0 l0 x0 s0 d0 p1 h1 l1 x1 s1 d1 p2 h2 l2 x2 s2 d2 p3 h3 l3 x3 s3 d3 p4 h4 l4 x4 s4 d4 p5 h5 l5 x5 s5 d5 m1 e1 m2 e2 m3 e3 m4 e4 m5 e5 : Int)
    (f0 : 18446744073709551616 * h0 + l0 = p0) (f1 : 18446744073709551616 * h1 + l1 = p1) (f2 : 18446744073709551616 * h2 + l2 = p2) (f3 : 18446744073709551616 * h3 + l3 = p3) (f4 : 18446744073709551616 * h4 + l4 = p4) (f5 : 18446744073709551616 * h5 + l5 = p5)
    (k1 : m1 + 18446744073709551616 * e1 = l1 + h0 + 0)
    (k2 : m2 + 18446744073709551616 * e2 = l2 + h1 + e1)
    (k3 : m3 + 18446744073709551616 * e3 = l3 + h2 + e2)
    (k4 : m4 + 18446744073709551616 * e4 = l4 + h3 + e3)
    (k5 : m5 + 18446744073709551616 * e5 = l5 + h4 + e4)
    (g0 : s0 + 18446744073709551616 * d0 = x0 + l0 + 0)
    (g1 : s1 + 18446744073709551616 * d1 = x1 + m1 + d0)
    (g2 : s2 + 18446744073709551616 * d2 = x2 + m2 + d1)
    (g3 : s3 + 18446744073709551616 * d3 = x3 + m3 + d2)
    (g4 : s4 + 18446744073709551616 * d4 = x4 + m4 + d3)
    (g5 : s5 + 18446744073709551616 * d5 = x5 + m5 + d4)
    (hN : N = s0 + 18446744073709551616 * s1 + 340282366920938463463374607431768211456 * s2 + 6277101735386680763835789423207666416102355444464034512896 * s3 + 115792089237316195423570985008687907853269984665640564039457584007913129639936 * s4 + 2135987035920910082395021706169552114602704522356652769947041607822219725780640550022962086936576 * s5) (hX : X = x0 + 18446744073709551616 * x1 + 340282366920938463463374607431768211456 * x2 + 6277101735386680763835789423207666416102355444464034512896 * x3 + 115792089237316195423570985008687907853269984665640564039457584007913129639936 * x4 + 2135987035920910082395021706169552114602704522356652769947041607822219725780640550022962086936576 * x5) (hY : Y = p0 + 18446744073709551616 * p1 + 340282366920938463463374607431768211456 * p2 + 6277101735386680763835789423207666416102355444464034512896 * p3 + 115792089237316195423570985008687907853269984665640564039457584007913129639936 * p4 + 2135987035920910082395021706169552114602704522356652769947041607822219725780640550022962086936576 * p5) :
    N + wp 6 * (h5 + e5 + d5) = X + Y ∧ l0 + 18446744073709551616 * m1 + 340282366920938463463374607431768211456 * m2 + 6277101735386680763835789423207666416102355444464034512896 * m3 + 115792089237316195423570985008687907853269984665640564039457584007913129639936 * m4 + 2135987035920910082395021706169552114602704522356652769947041607822219725780640550022962086936576 * m5 + wp 6 * (h5 + e5) = Y := by
  rw [wp_six]
  subst f0 f1 f2 f3 f4 f5 hN hX hY
  obtain rfl : x5 = s5 + 18446744073709551616 * d5 - m5 - d4 := by omega
  obtain rfl : x4 = s4 + 18446744073709551616 * d4 - m4 - d3 := by omega
  obtain rfl : x3 = s3 + 18446744073709551616 * d3 - m3 - d2 := by omega
  obtain rfl : x2 = s2 + 18446744073709551616 * d2 - m2 - d1 := by omega
  obtain rfl : x1 = s1 + 18446744073709551616 * d1 - m1 - d0 := by omega
  obtain rfl : x0 = s0 + 18446744073709551616 * d0 - l0 := by omega
  obtain rfl : l5 = m5 + 18446744073709551616 * e5 - h4 - e4 := by omega
  obtain rfl : l4 = m4 + 18446744073709551616 * e4 - h3 - e3 := by omega
  obtain rfl : l3 = m3 + 18446744073709551616 * e3 - h2 - e2 := by omega
  obtain rfl : l2 = m2 + 18446744073709551616 * e2 - h1 - e1 := by omega
  obtain rfl : l1 = m1 + 18446744073709551616 * e1 - h0 := by omega
  clear g0 g1 g2 g3 g4 g5 k1 k2 k3 k4 k5
  constructor <;> omega
/-- The top word. -/
theorem times_top {S X Y T d M R : Int} (hM : M = 39402006196394479212279040100143613805079739270465446667948293404245721771497210611414266254884915640806627990306816) (hk : S + M * (T + d) = X + Y) (hk2 : R + M * T = Y) (hS0 : 0 ≤ S) (hS1 : S < M) (hX0 : 0 ≤ X) (hX1 : X < M) (hR0 : 0 ≤ R) (_hd0 : 0 ≤ d) (hY0 : 0 ≤ Y) (hY : Y ≤ 18446744073709551615 * (M - 1)) :
    T ≤ 18446744073709551615 ∧ 0 ≤ T + d ∧ T + d ≤ 18446744073709551615 := by
  subst hM
  refine ⟨by omega, by omega, by omega⟩

set_option maxRecDepth 100000 in
set_option maxHeartbeats 4000000 in
theorem fpTimes_c (g off gb : Nat) (t tb : TypeId) (p a r b : List Int) (hp : p.length = off) (hla : a.length = 6) (hwa : Words a) (hlb : b.length = 6) (hwb : Words b) (x : Int) (hx : 0 ≤ x ∧ x ≤ 18446744073709551615) (hne : g ≠ gb) (w : World) (hA0 : Has w g t (vals .u64 (p ++ (a ++ r)))) (hB0 : Has w gb tb (vals .u64 b)) :
    Calls Tryd.prog 57 #[.pointer (some ⟨g, off, none⟩), .pointer (some ⟨gb, 0, none⟩), .int .u64 x] w fun e w' => ∃ (o : List Int) (cy : Int), e = .returned (.int .u64 cy) ∧ Has w' g t (vals .u64 (p ++ (o ++ r))) ∧ o.length = 6 ∧ Words o ∧ num o + wp 6 * cy = num a + x * num b ∧ 0 ≤ cy ∧ cy ≤ 18446744073709551615 ∧ Only g w w' := by
  obtain ⟨x0, x1, x2, x3, x4, x5, rfl⟩ := six_of hla
  obtain ⟨y0, y1, y2, y3, y4, y5, rfl⟩ := six_of hlb
  have na := num6 hwa rfl
  have nb := num6 hwb rfl
  obtain ⟨bx0, bx1, bx2, bx3, bx4, bx5⟩ := words6 hwa
  obtain ⟨by0, by1, by2, by3, by4, by5⟩ := words6 hwb
  have HP : Keep _ := ⟨hp⟩
  clear hla hlb hwa hwb
  have hO0 : Only g w w := Only.refl _ _
  obtain ⟨h0, l0, MU0, F0, bh0, bl0⟩ := mul_told x y0 hx by0
  obtain ⟨h1, l1, MU1, F1, bh1, bl1⟩ := mul_told x y1 hx by1
  obtain ⟨h2, l2, MU2, F2, bh2, bl2⟩ := mul_told x y2 hx by2
  obtain ⟨h3, l3, MU3, F3, bh3, bl3⟩ := mul_told x y3 hx by3
  obtain ⟨h4, l4, MU4, F4, bh4, bl4⟩ := mul_told x y4 hx by4
  obtain ⟨h5, l5, MU5, F5, bh5, bl5⟩ := mul_told x y5 hx by5
  obtain ⟨m1, e1, rub1, G1, BM1, DE1⟩ := addc_told l1 h0 0 bl1 bh0 ⟨by omega, by omega⟩
  obtain ⟨m2, e2, rub2, G2, BM2, DE2⟩ := addc_told l2 h1 e1 bl2 bh1 DE1
  obtain ⟨m3, e3, rub3, G3, BM3, DE3⟩ := addc_told l3 h2 e2 bl3 bh2 DE2
  obtain ⟨m4, e4, rub4, G4, BM4, DE4⟩ := addc_told l4 h3 e3 bl4 bh3 DE3
  obtain ⟨m5, e5, rub5, G5, BM5, DE5⟩ := addc_told l5 h4 e4 bl5 bh4 DE4
  obtain ⟨s0, d0, run0, E0, B0, D0⟩ := addc_told x0 l0 0 bx0 bl0 ⟨by omega, by omega⟩
  obtain ⟨s1, d1, run1, E1, B1, D1⟩ := addc_told x1 m1 d0 bx1 BM1.out D0
  obtain ⟨s2, d2, run2, E2, B2, D2⟩ := addc_told x2 m2 d1 bx2 BM2.out D1
  obtain ⟨s3, d3, run3, E3, B3, D3⟩ := addc_told x3 m3 d2 bx3 BM3.out D2
  obtain ⟨s4, d4, run4, E4, B4, D4⟩ := addc_told x4 m4 d3 bx4 BM4.out D3
  obtain ⟨s5, d5, run5, E5, B5, D5⟩ := addc_told x5 m5 d4 bx5 BM5.out D4
  have eb : x * num [y0, y1, y2, y3, y4, y5] = x * y0 + 18446744073709551616 * (x * y1) + 340282366920938463463374607431768211456 * (x * y2) + 6277101735386680763835789423207666416102355444464034512896 * (x * y3) + 115792089237316195423570985008687907853269984665640564039457584007913129639936 * (x * y4) + 2135987035920910082395021706169552114602704522356652769947041607822219725780640550022962086936576 * (x * y5) := by
    rw [num_of6]
    grind
  have top : x * num [y0, y1, y2, y3, y4, y5] ≤ 18446744073709551615 * (wp 6 - 1) := by
    have h1 : x * num [y0, y1, y2, y3, y4, y5] ≤ 18446744073709551615 * num [y0, y1, y2, y3, y4, y5] := Int.mul_le_mul_of_nonneg_right hx.2 nb.1
    omega
  have top0 : 0 ≤ x * num [y0, y1, y2, y3, y4, y5] := Int.mul_nonneg hx.1 nb.1
  have ns := num6 (words6_of B0.out B1.out B2.out B3.out B4.out B5.out) rfl
  have nr := num6 (words6_of bl0 BM1.out BM2.out BM3.out BM4.out BM5.out) rfl
  have AK := times_ar (num [s0, s1, s2, s3, s4, s5]) (num [x0, x1, x2, x3, x4, x5]) (x * num [y0, y1, y2, y3, y4, y5]) (x * y0) h0 l0 x0 s0 d0 (x * y1) h1 l1 x1 s1 d1 (x * y2) h2 l2 x2 s2 d2 (x * y3) h3 l3 x3 s3 d3 (x * y4) h4 l4 x4 s4 d4 (x * y5) h5 l5 x5 s5 d5 m1 e1 m2 e2 m3 e3 m4 e4 m5 e5 F0.out F1.out F2.out F3.out F4.out F5.out G1.out G2.out G3.out G4.out G5.out E0.out E1.out E2.out E3.out E4.out E5.out (num_of6 _ _ _ _ _ _) (num_of6 _ _ _ _ _ _) eb
  have AT := times_top wp_six AK.1 ((num_of6 l0 m1 m2 m3 m4 m5).symm ▸ AK.2) ns.1 ns.2 na.1 na.2 nr.1 D5.1 top0 top
  have ar : h5 + e5 ≤ 18446744073709551615 ∧ 0 ≤ h5 + e5 + d5 ∧ h5 + e5 + d5 ≤ 18446744073709551615 ∧ num [s0, s1, s2, s3, s4, s5] + wp 6 * (h5 + e5 + d5) = num [x0, x1, x2, x3, x4, x5] + x * num [y0, y1, y2, y3, y4, y5] := ⟨AT.1, AT.2.1, AT.2.2, AK.1⟩
  have hw1 : IntKind.u64.wrap (h5 + e5) = h5 + e5 := by rw [IntKind.wrap_u64]; omega
  have hw2 : IntKind.u64.wrap (h5 + e5 + d5) = h5 + e5 + d5 := by rw [IntKind.wrap_u64]; omega
  have AR : Keep _ := ⟨ar.2⟩
  have BB : Keep _ := ⟨words6_of B0.out B1.out B2.out B3.out B4.out B5.out⟩
  obtain ⟨T, hT⟩ : ∃ T, h5 + e5 = T := ⟨_, rfl⟩
  rw [hT] at hw1 hw2 AR
  obtain ⟨U, hU⟩ : ∃ U, T + d5 = U := ⟨_, rfl⟩
  rw [hU] at hw2 AR
  have HW : Keep (IntKind.u64.wrap (IntKind.u64.wrap (h5 + e5) + d5) = U) := ⟨by rw [hT, hw1, hU, hw2]⟩
  clear hw1 hw2 hT hU ar eb top na nb top0 ns nr AK AT
  clear bx0 by0 F0 bh0 bl0 E0 B0 D0 bx1 by1 F1 bh1 bl1 E1 B1 D1 bx2 by2 F2 bh2 bl2 E2 B2 D2 bx3 by3 F3 bh3 bl3 E3 B3 D3 bx4 by4 F4 bh4 bl4 E4 B4 D4 bx5 by5 F5 bh5 bl5 E5 B5 D5 G1 BM1 DE1 G2 BM2 DE2 G3 BM3 DE3 G4 BM4 DE4 G5 BM5 DE5 hp hx
  go_enter Tryd.func57, Tryd.ntmps57
  have cb0 := hB0.val (i := 0) (by simp)
  have cb1 := hB0.val (i := 1) (by simp)
  have cb2 := hB0.val (i := 2) (by simp)
  have cb3 := hB0.val (i := 3) (by simp)
  have cb4 := hB0.val (i := 4) (by simp)
  have cb5 := hB0.val (i := 5) (by simp)
  simp only [nth, List.getD_cons_zero, List.getD_cons_succ] at cb0 cb1 cb2 cb3 cb4 cb5
  go_wp2_with (first
    | (go_at_call 77; with_reducible refine (MU0.out _).mono ?_; rintro e w1 ⟨rfl, rfl⟩)
    | (go_at_call 77; with_reducible refine (MU1.out _).mono ?_; rintro e w1 ⟨rfl, rfl⟩)
    | (go_at_call 77; with_reducible refine (MU2.out _).mono ?_; rintro e w1 ⟨rfl, rfl⟩)
    | (go_at_call 77; with_reducible refine (MU3.out _).mono ?_; rintro e w1 ⟨rfl, rfl⟩)
    | (go_at_call 77; with_reducible refine (MU4.out _).mono ?_; rintro e w1 ⟨rfl, rfl⟩)
    | (go_at_call 77; with_reducible refine (MU5.out _).mono ?_; rintro e w1 ⟨rfl, rfl⟩))
  clear cb0 cb1 cb2 cb3 cb4 cb5 rub1 rub2 rub3 rub4 rub5 MU0 MU1 MU2 MU3 MU4 MU5
  refine wp_write 12 (by rfl) (by kernel_rfl) (by kernel_rfl) (by kernel_rfl) (fun _ _ d _ _ h => by cases d <;> exact h) (fun I hI' fw hf hback => ?_)
  simp only [List.take_succ_cons, List.take_zero]
  have ca : ∀ j, (fw j).cell? ⟨g, off, none⟩ = some (.int .u64 x0) := fun j => at_off (hA0.keep (hf j)) HP.out (i := 0) (by simp <;> omega)
  repeat (go_big_quiet_step (fail))
  refine wpQuiet_nil ?_
  intro w1 hq
  clear ca hf hback run0
  have co : w1.cell? ⟨g, off, none⟩ = some (.int .u64 x0) := at_off (hA0.keep hq) HP.out (i := 0) (by simp <;> omega)
  have zo : w1.frozen? ⟨g, off, none⟩ = false := (hA0.keep hq).frozen (off)
  obtain ⟨v1, hv⟩ : ∃ v, w1.setCell ⟨g, off, none⟩ (.int .u64 s0) = v := ⟨_, rfl⟩
  have hA1 : Has v1 g t (vals .u64 (p ++ ([s0, x1, x2, x3, x4, x5] ++ r))) := by rw [← hv]; exact set_off (hA0.keep hq) HP.out 0 s0
  have hO1 : Only g w v1 := by rw [← hv]; exact (hO0.trans (Only.of_below hq g)).set_ (p := ⟨g, off, none⟩) rfl _
  clear hA0 hO0 hq
  go_wp2
  clear hv co zo w1
  go_wp2
  refine wp_write 13 (by rfl) (by kernel_rfl) (by kernel_rfl) (by kernel_rfl) (fun _ _ d _ _ h => by cases d <;> exact h) (fun I hI' fw hf hback => ?_)
  simp only [List.take_succ_cons, List.take_zero]
  have ca : ∀ j, (fw j).cell? ⟨g, off + 1, none⟩ = some (.int .u64 x1) := fun j => at_off (hA1.keep (hf j)) HP.out (i := 1) (by simp <;> omega)
  repeat (go_big_quiet_step (fail))
  refine wpQuiet_nil ?_
  intro w2 hq
  clear ca hf hback run1
  have co : w2.cell? ⟨g, off + 1, none⟩ = some (.int .u64 x1) := at_off (hA1.keep hq) HP.out (i := 1) (by simp <;> omega)
  have zo : w2.frozen? ⟨g, off + 1, none⟩ = false := (hA1.keep hq).frozen (off + 1)
  obtain ⟨v2, hv⟩ : ∃ v, w2.setCell ⟨g, off + 1, none⟩ (.int .u64 s1) = v := ⟨_, rfl⟩
  have hA2 : Has v2 g t (vals .u64 (p ++ ([s0, s1, x2, x3, x4, x5] ++ r))) := by rw [← hv]; exact set_off (hA1.keep hq) HP.out 1 s1
  have hO2 : Only g w v2 := by rw [← hv]; exact (hO1.trans (Only.of_below hq g)).set_ (p := ⟨g, off + 1, none⟩) rfl _
  clear hA1 hO1 hq
  go_wp2
  clear hv co zo w2
  go_wp2
  refine wp_write 13 (by rfl) (by kernel_rfl) (by kernel_rfl) (by kernel_rfl) (fun _ _ d _ _ h => by cases d <;> exact h) (fun I hI' fw hf hback => ?_)
  simp only [List.take_succ_cons, List.take_zero]
  have ca : ∀ j, (fw j).cell? ⟨g, off + 2, none⟩ = some (.int .u64 x2) := fun j => at_off (hA2.keep (hf j)) HP.out (i := 2) (by simp <;> omega)
  repeat (go_big_quiet_step (fail))
  refine wpQuiet_nil ?_
  intro w3 hq
  clear ca hf hback run2
  have co : w3.cell? ⟨g, off + 2, none⟩ = some (.int .u64 x2) := at_off (hA2.keep hq) HP.out (i := 2) (by simp <;> omega)
  have zo : w3.frozen? ⟨g, off + 2, none⟩ = false := (hA2.keep hq).frozen (off + 2)
  obtain ⟨v3, hv⟩ : ∃ v, w3.setCell ⟨g, off + 2, none⟩ (.int .u64 s2) = v := ⟨_, rfl⟩
  have hA3 : Has v3 g t (vals .u64 (p ++ ([s0, s1, s2, x3, x4, x5] ++ r))) := by rw [← hv]; exact set_off (hA2.keep hq) HP.out 2 s2
  have hO3 : Only g w v3 := by rw [← hv]; exact (hO2.trans (Only.of_below hq g)).set_ (p := ⟨g, off + 2, none⟩) rfl _
  clear hA2 hO2 hq
  go_wp2
  clear hv co zo w3
  go_wp2
  refine wp_write 13 (by rfl) (by kernel_rfl) (by kernel_rfl) (by kernel_rfl) (fun _ _ d _ _ h => by cases d <;> exact h) (fun I hI' fw hf hback => ?_)
  simp only [List.take_succ_cons, List.take_zero]
  have ca : ∀ j, (fw j).cell? ⟨g, off + 3, none⟩ = some (.int .u64 x3) := fun j => at_off (hA3.keep (hf j)) HP.out (i := 3) (by simp <;> omega)
  repeat (go_big_quiet_step (fail))
  refine wpQuiet_nil ?_
  intro w4 hq
  clear ca hf hback run3
  have co : w4.cell? ⟨g, off + 3, none⟩ = some (.int .u64 x3) := at_off (hA3.keep hq) HP.out (i := 3) (by simp <;> omega)
  have zo : w4.frozen? ⟨g, off + 3, none⟩ = false := (hA3.keep hq).frozen (off + 3)
  obtain ⟨v4, hv⟩ : ∃ v, w4.setCell ⟨g, off + 3, none⟩ (.int .u64 s3) = v := ⟨_, rfl⟩
  have hA4 : Has v4 g t (vals .u64 (p ++ ([s0, s1, s2, s3, x4, x5] ++ r))) := by rw [← hv]; exact set_off (hA3.keep hq) HP.out 3 s3
  have hO4 : Only g w v4 := by rw [← hv]; exact (hO3.trans (Only.of_below hq g)).set_ (p := ⟨g, off + 3, none⟩) rfl _
  clear hA3 hO3 hq
  go_wp2
  clear hv co zo w4
  go_wp2
  refine wp_write 13 (by rfl) (by kernel_rfl) (by kernel_rfl) (by kernel_rfl) (fun _ _ d _ _ h => by cases d <;> exact h) (fun I hI' fw hf hback => ?_)
  simp only [List.take_succ_cons, List.take_zero]
  have ca : ∀ j, (fw j).cell? ⟨g, off + 4, none⟩ = some (.int .u64 x4) := fun j => at_off (hA4.keep (hf j)) HP.out (i := 4) (by simp <;> omega)
  repeat (go_big_quiet_step (fail))
  refine wpQuiet_nil ?_
  intro w5 hq
  clear ca hf hback run4
  have co : w5.cell? ⟨g, off + 4, none⟩ = some (.int .u64 x4) := at_off (hA4.keep hq) HP.out (i := 4) (by simp <;> omega)
  have zo : w5.frozen? ⟨g, off + 4, none⟩ = false := (hA4.keep hq).frozen (off + 4)
  obtain ⟨v5, hv⟩ : ∃ v, w5.setCell ⟨g, off + 4, none⟩ (.int .u64 s4) = v := ⟨_, rfl⟩
  have hA5 : Has v5 g t (vals .u64 (p ++ ([s0, s1, s2, s3, s4, x5] ++ r))) := by rw [← hv]; exact set_off (hA4.keep hq) HP.out 4 s4
  have hO5 : Only g w v5 := by rw [← hv]; exact (hO4.trans (Only.of_below hq g)).set_ (p := ⟨g, off + 4, none⟩) rfl _
  clear hA4 hO4 hq
  go_wp2
  clear hv co zo w5
  go_wp2
  refine wp_write 13 (by rfl) (by kernel_rfl) (by kernel_rfl) (by kernel_rfl) (fun _ _ d _ _ h => by cases d <;> exact h) (fun I hI' fw hf hback => ?_)
  simp only [List.take_succ_cons, List.take_zero]
  have ca : ∀ j, (fw j).cell? ⟨g, off + 5, none⟩ = some (.int .u64 x5) := fun j => at_off (hA5.keep (hf j)) HP.out (i := 5) (by simp <;> omega)
  repeat (go_big_quiet_step (fail))
  refine wpQuiet_nil ?_
  intro w6 hq
  clear ca hf hback run5
  have co : w6.cell? ⟨g, off + 5, none⟩ = some (.int .u64 x5) := at_off (hA5.keep hq) HP.out (i := 5) (by simp <;> omega)
  have zo : w6.frozen? ⟨g, off + 5, none⟩ = false := (hA5.keep hq).frozen (off + 5)
  obtain ⟨v6, hv⟩ : ∃ v, w6.setCell ⟨g, off + 5, none⟩ (.int .u64 s5) = v := ⟨_, rfl⟩
  have hA6 : Has v6 g t (vals .u64 (p ++ ([s0, s1, s2, s3, s4, s5] ++ r))) := by rw [← hv]; exact set_off (hA5.keep hq) HP.out 5 s5
  have hO6 : Only g w v6 := by rw [← hv]; exact (hO5.trans (Only.of_below hq g)).set_ (p := ⟨g, off + 5, none⟩) rfl _
  clear hA5 hO5 hq
  go_wp2
  clear hv co zo w6
  go_ret
  exact ⟨[s0, s1, s2, s3, s4, s5], U, by show Ending.returned (.int .u64 (IntKind.u64.wrap (IntKind.u64.wrap (h5 + e5) + d5))) = _; rw [HW.out], hA6, rfl, BB.out, AR.out.2.2, AR.out.1, AR.out.2.1, hO6⟩
end Go.Proofs.YtmohopjblhgdiaaDoor.Fp
