/-
  Own text. Numbers of six words that lie in blocks: what Add64, Sub64, Mul64 tell; addTo, takeFrom of package fp.
-/
import Derived.Test.YtmohopjblhgdiaaGreatDoorMFpR
import Derived.Test.YtmohopjblhgdiaaGreatDoorBits
import Derived.Test.YtmohopjblhgdiaaGreatDoorMReg
import Derived.Test.YtmohopjblhgdiaaGreatDoorLimbOwnD
namespace Go.Proofs.YtmohopjblhgdiaaGreatDoor.Fp
set_option linter.unusedVariables false
open Go Go.RowKit Go.Proofs.YtmohopjblhgdiaaGreatDoor.Reg Go.Proofs.YtmohopjblhgdiaaGreatDoor.Base Go.Proofs.YtmohopjblhgdiaaGreatDoor.Limb Go.Proofs.YtmohopjblhgdiaaGreatDoor.Bits

theorem addc_told (x y c : Int) (hx : 0 ≤ x ∧ x ≤ 18446744073709551615) (hy : 0 ≤ y ∧ y ≤ 18446744073709551615) (hc : 0 ≤ c ∧ c ≤ 1) :
    ∃ s d : Int, (∀ w, (callFunc 101 #[.int .u64 x, .int .u64 y, .int .u64 c]).run Tryz.prog w = .ok (.value (.tuple #[.int .u64 s, .int .u64 d])) w) ∧
      Keep (s + 18446744073709551616 * d = x + y + c) ∧ Keep (0 ≤ s ∧ s ≤ 18446744073709551615) ∧ (0 ≤ d ∧ d ≤ 1) :=
  ⟨_, _, fun w => addc_run x y c hx.1 hy.1 hc.1 hc.2 w, ⟨by omega⟩, ⟨by omega⟩, by omega⟩
theorem subc_told (x y c : Int) (hx : 0 ≤ x ∧ x ≤ 18446744073709551615) (hy : 0 ≤ y ∧ y ≤ 18446744073709551615) (hc : 0 ≤ c ∧ c ≤ 1) :
    ∃ s d : Int, (∀ w, (callFunc 98 #[.int .u64 x, .int .u64 y, .int .u64 c]).run Tryz.prog w = .ok (.value (.tuple #[.int .u64 s, .int .u64 d])) w) ∧
      Keep (s - 18446744073709551616 * d = x - y - c) ∧ Keep (0 ≤ s ∧ s ≤ 18446744073709551615) ∧ (0 ≤ d ∧ d ≤ 1) := by
  refine ⟨_, _, fun w => subc_run x y c hx.1 hy.1 hy.2 hc.1 hc.2 w, ⟨?_⟩, ⟨by omega⟩, ?_⟩
  · by_cases h : x < y + c
    · rw [if_pos h]; omega
    · rw [if_neg h]; omega
  · by_cases h : x < y + c
    · rw [if_pos h]; omega
    · rw [if_neg h]; omega
theorem six_of {l : List Int} (h : l.length = 6) : ∃ a b c d e f, l = [a, b, c, d, e, f] := by
  match l, h with
  | [a, b, c, d, e, f], _ => exact ⟨a, b, c, d, e, f, rfl⟩
theorem words6 {a b c d e f : Int} (h : Words [a, b, c, d, e, f]) : (0 ≤ a ∧ a ≤ 18446744073709551615) ∧ (0 ≤ b ∧ b ≤ 18446744073709551615) ∧ (0 ≤ c ∧ c ≤ 18446744073709551615) ∧ (0 ≤ d ∧ d ≤ 18446744073709551615) ∧ (0 ≤ e ∧ e ≤ 18446744073709551615) ∧ (0 ≤ f ∧ f ≤ 18446744073709551615) :=
  ⟨h 0, h 1, h 2, h 3, h 4, h 5⟩
theorem words6_of {a b c d e f : Int} (h0 : 0 ≤ a ∧ a ≤ 18446744073709551615) (h1 : 0 ≤ b ∧ b ≤ 18446744073709551615) (h2 : 0 ≤ c ∧ c ≤ 18446744073709551615) (h3 : 0 ≤ d ∧ d ≤ 18446744073709551615) (h4 : 0 ≤ e ∧ e ≤ 18446744073709551615) (h5 : 0 ≤ f ∧ f ≤ 18446744073709551615) : Words [a, b, c, d, e, f] :=
  words_of _ fun i hi => by
    match i, hi with
    | 0, _ => exact h0
    | 1, _ => exact h1
    | 2, _ => exact h2
    | 3, _ => exact h3
    | 4, _ => exact h4
    | 5, _ => exact h5
theorem num_of6 (a b c d e f : Int) : num [a, b, c, d, e, f] = a + 18446744073709551616 * b + 340282366920938463463374607431768211456 * c + 6277101735386680763835789423207666416102355444464034512896 * d + 115792089237316195423570985008687907853269984665640564039457584007913129639936 * e + 2135987035920910082395021706169552114602704522356652769947041607822219725780640550022962086936576 * f := by
  rw [num_cons, num_cons, num_cons, num_cons, num_cons, num_cons, num_nil]; omega
theorem wp_six : wp 6 = 39402006196394479212279040100143613805079739270465446667948293404245721771497210611414266254884915640806627990306816 := by decide +kernel

set_option maxRecDepth 100000 in
set_option maxHeartbeats 2000000 in
theorem addTo_c (ga gb : Nat) (ta tb : TypeId) (a b : List Int) (hla : a.length = 6) (hlb : b.length = 6) (hwa : Words a) (hwb : Words b) (hne : ga ≠ gb) (w : World) (hA0 : Has w ga ta (vals .u64 a)) (hB0 : Has w gb tb (vals .u64 b)) :
    Calls Tryz.prog 93 #[.pointer (some ⟨ga, 0, none⟩), .pointer (some ⟨gb, 0, none⟩)] w fun e w' => e = .returned (.tuple #[]) ∧ ∃ (o : List Int) (d : Int), Has w' ga ta (vals .u64 o) ∧ o.length = 6 ∧ Words o ∧ num o + wp 6 * d = num a + num b ∧ 0 ≤ d ∧ d ≤ 1 ∧ Only ga w w' := by
  obtain ⟨x0, x1, x2, x3, x4, x5, rfl⟩ := six_of hla
  obtain ⟨y0, y1, y2, y3, y4, y5, rfl⟩ := six_of hlb
  obtain ⟨bx0, bx1, bx2, bx3, bx4, bx5⟩ := words6 hwa
  obtain ⟨by0, by1, by2, by3, by4, by5⟩ := words6 hwb
  clear hla hlb hwa hwb
  have hO0 : Only ga w w := Only.refl _ _
  obtain ⟨s0, d0, run0, E0, B0, D0⟩ := addc_told x0 y0 0 bx0 by0 ⟨by omega, by omega⟩
  obtain ⟨s1, d1, run1, E1, B1, D1⟩ := addc_told x1 y1 d0 bx1 by1 D0
  obtain ⟨s2, d2, run2, E2, B2, D2⟩ := addc_told x2 y2 d1 bx2 by2 D1
  obtain ⟨s3, d3, run3, E3, B3, D3⟩ := addc_told x3 y3 d2 bx3 by3 D2
  obtain ⟨s4, d4, run4, E4, B4, D4⟩ := addc_told x4 y4 d3 bx4 by4 D3
  obtain ⟨s5, d5, run5, E5, B5, D5⟩ := addc_told x5 y5 d4 bx5 by5 D4
  have EE : Keep _ := ⟨And.intro E0.out (And.intro E1.out (And.intro E2.out (And.intro E3.out (And.intro E4.out E5.out))))⟩
  have BB : Keep _ := ⟨words6_of B0.out B1.out B2.out B3.out B4.out B5.out⟩
  have DD : Keep _ := ⟨D5⟩
  clear bx0 bx1 bx2 bx3 bx4 bx5 by0 by1 by2 by3 by4 by5 E0 E1 E2 E3 E4 E5 B0 B1 B2 B3 B4 B5 D0 D1 D2 D3 D4 D5
  go_enter Tryz.func93, Tryz.ntmps93
  go_wp2
  refine wp_write 15 (by rfl) (by kernel_rfl) (by kernel_rfl) (by kernel_rfl) (fun _ _ d _ _ h => by cases d <;> exact h) (fun I hI' fw hf hback => ?_)
  simp only [List.take_succ_cons, List.take_zero]
  have ca : ∀ j, (fw j).cell? ⟨ga, 0, none⟩ = some (.int .u64 x0) := fun j => (hA0.keep (hf j)).val (i := 0) (by simp)
  have cb : ∀ j, (fw j).cell? ⟨gb, 0, none⟩ = some (.int .u64 y0) := fun j => (hB0.keep (hf j)).val (i := 0) (by simp)
  repeat (go_big_quiet_step (fail))
  refine wpQuiet_nil ?_
  intro w1 hq
  clear ca cb hf hback run0
  have co := (hA0.keep hq).val (i := 0) (by simp)
  have zo := (hA0.keep hq).frozen 0
  obtain ⟨v1, hv⟩ : ∃ v, w1.setCell ⟨ga, 0, none⟩ (.int .u64 s0) = v := ⟨_, rfl⟩
  have hA1 : Has v1 ga ta (vals .u64 [s0, x1, x2, x3, x4, x5]) := by rw [← hv]; exact (hA0.keep hq).set_ 0 (.int .u64 s0)
  have hB1 : Has v1 gb tb (vals .u64 [y0, y1, y2, y3, y4, y5]) := by rw [← hv]; exact (hB0.keep hq).far (p := ⟨ga, 0, none⟩) hne.symm _
  have hO1 : Only ga w v1 := by rw [← hv]; exact (hO0.trans (Only.of_below hq ga)).set_ (p := ⟨ga, 0, none⟩) rfl _
  clear hA0 hB0 hO0 hq
  go_wp2
  clear hv co zo w1
  go_wp2
  refine wp_write 16 (by rfl) (by kernel_rfl) (by kernel_rfl) (by kernel_rfl) (fun _ _ d _ _ h => by cases d <;> exact h) (fun I hI' fw hf hback => ?_)
  simp only [List.take_succ_cons, List.take_zero]
  have ca : ∀ j, (fw j).cell? ⟨ga, 1, none⟩ = some (.int .u64 x1) := fun j => (hA1.keep (hf j)).val (i := 1) (by simp)
  have cb : ∀ j, (fw j).cell? ⟨gb, 1, none⟩ = some (.int .u64 y1) := fun j => (hB1.keep (hf j)).val (i := 1) (by simp)
  repeat (go_big_quiet_step (fail))
  refine wpQuiet_nil ?_
  intro w2 hq
  clear ca cb hf hback run1
  have co := (hA1.keep hq).val (i := 1) (by simp)
  have zo := (hA1.keep hq).frozen 1
  obtain ⟨v2, hv⟩ : ∃ v, w2.setCell ⟨ga, 1, none⟩ (.int .u64 s1) = v := ⟨_, rfl⟩
  have hA2 : Has v2 ga ta (vals .u64 [s0, s1, x2, x3, x4, x5]) := by rw [← hv]; exact (hA1.keep hq).set_ 1 (.int .u64 s1)
  have hB2 : Has v2 gb tb (vals .u64 [y0, y1, y2, y3, y4, y5]) := by rw [← hv]; exact (hB1.keep hq).far (p := ⟨ga, 1, none⟩) hne.symm _
  have hO2 : Only ga w v2 := by rw [← hv]; exact (hO1.trans (Only.of_below hq ga)).set_ (p := ⟨ga, 1, none⟩) rfl _
  clear hA1 hB1 hO1 hq
  go_wp2
  clear hv co zo w2
  go_wp2
  refine wp_write 16 (by rfl) (by kernel_rfl) (by kernel_rfl) (by kernel_rfl) (fun _ _ d _ _ h => by cases d <;> exact h) (fun I hI' fw hf hback => ?_)
  simp only [List.take_succ_cons, List.take_zero]
  have ca : ∀ j, (fw j).cell? ⟨ga, 2, none⟩ = some (.int .u64 x2) := fun j => (hA2.keep (hf j)).val (i := 2) (by simp)
  have cb : ∀ j, (fw j).cell? ⟨gb, 2, none⟩ = some (.int .u64 y2) := fun j => (hB2.keep (hf j)).val (i := 2) (by simp)
  repeat (go_big_quiet_step (fail))
  refine wpQuiet_nil ?_
  intro w3 hq
  clear ca cb hf hback run2
  have co := (hA2.keep hq).val (i := 2) (by simp)
  have zo := (hA2.keep hq).frozen 2
  obtain ⟨v3, hv⟩ : ∃ v, w3.setCell ⟨ga, 2, none⟩ (.int .u64 s2) = v := ⟨_, rfl⟩
  have hA3 : Has v3 ga ta (vals .u64 [s0, s1, s2, x3, x4, x5]) := by rw [← hv]; exact (hA2.keep hq).set_ 2 (.int .u64 s2)
  have hB3 : Has v3 gb tb (vals .u64 [y0, y1, y2, y3, y4, y5]) := by rw [← hv]; exact (hB2.keep hq).far (p := ⟨ga, 2, none⟩) hne.symm _
  have hO3 : Only ga w v3 := by rw [← hv]; exact (hO2.trans (Only.of_below hq ga)).set_ (p := ⟨ga, 2, none⟩) rfl _
  clear hA2 hB2 hO2 hq
  go_wp2
  clear hv co zo w3
  go_wp2
  refine wp_write 16 (by rfl) (by kernel_rfl) (by kernel_rfl) (by kernel_rfl) (fun _ _ d _ _ h => by cases d <;> exact h) (fun I hI' fw hf hback => ?_)
  simp only [List.take_succ_cons, List.take_zero]
  have ca : ∀ j, (fw j).cell? ⟨ga, 3, none⟩ = some (.int .u64 x3) := fun j => (hA3.keep (hf j)).val (i := 3) (by simp)
  have cb : ∀ j, (fw j).cell? ⟨gb, 3, none⟩ = some (.int .u64 y3) := fun j => (hB3.keep (hf j)).val (i := 3) (by simp)
  repeat (go_big_quiet_step (fail))
  refine wpQuiet_nil ?_
  intro w4 hq
  clear ca cb hf hback run3
  have co := (hA3.keep hq).val (i := 3) (by simp)
  have zo := (hA3.keep hq).frozen 3
  obtain ⟨v4, hv⟩ : ∃ v, w4.setCell ⟨ga, 3, none⟩ (.int .u64 s3) = v := ⟨_, rfl⟩
  have hA4 : Has v4 ga ta (vals .u64 [s0, s1, s2, s3, x4, x5]) := by rw [← hv]; exact (hA3.keep hq).set_ 3 (.int .u64 s3)
  have hB4 : Has v4 gb tb (vals .u64 [y0, y1, y2, y3, y4, y5]) := by rw [← hv]; exact (hB3.keep hq).far (p := ⟨ga, 3, none⟩) hne.symm _
  have hO4 : Only ga w v4 := by rw [← hv]; exact (hO3.trans (Only.of_below hq ga)).set_ (p := ⟨ga, 3, none⟩) rfl _
  clear hA3 hB3 hO3 hq
  go_wp2
  clear hv co zo w4
  go_wp2
  refine wp_write 16 (by rfl) (by kernel_rfl) (by kernel_rfl) (by kernel_rfl) (fun _ _ d _ _ h => by cases d <;> exact h) (fun I hI' fw hf hback => ?_)
  simp only [List.take_succ_cons, List.take_zero]
  have ca : ∀ j, (fw j).cell? ⟨ga, 4, none⟩ = some (.int .u64 x4) := fun j => (hA4.keep (hf j)).val (i := 4) (by simp)
  have cb : ∀ j, (fw j).cell? ⟨gb, 4, none⟩ = some (.int .u64 y4) := fun j => (hB4.keep (hf j)).val (i := 4) (by simp)
  repeat (go_big_quiet_step (fail))
  refine wpQuiet_nil ?_
  intro w5 hq
  clear ca cb hf hback run4
  have co := (hA4.keep hq).val (i := 4) (by simp)
  have zo := (hA4.keep hq).frozen 4
  obtain ⟨v5, hv⟩ : ∃ v, w5.setCell ⟨ga, 4, none⟩ (.int .u64 s4) = v := ⟨_, rfl⟩
  have hA5 : Has v5 ga ta (vals .u64 [s0, s1, s2, s3, s4, x5]) := by rw [← hv]; exact (hA4.keep hq).set_ 4 (.int .u64 s4)
  have hB5 : Has v5 gb tb (vals .u64 [y0, y1, y2, y3, y4, y5]) := by rw [← hv]; exact (hB4.keep hq).far (p := ⟨ga, 4, none⟩) hne.symm _
  have hO5 : Only ga w v5 := by rw [← hv]; exact (hO4.trans (Only.of_below hq ga)).set_ (p := ⟨ga, 4, none⟩) rfl _
  clear hA4 hB4 hO4 hq
  go_wp2
  clear hv co zo w5
  go_wp2
  refine wp_write 16 (by rfl) (by kernel_rfl) (by kernel_rfl) (by kernel_rfl) (fun _ _ d _ _ h => by cases d <;> exact h) (fun I hI' fw hf hback => ?_)
  simp only [List.take_succ_cons, List.take_zero]
  have ca : ∀ j, (fw j).cell? ⟨ga, 5, none⟩ = some (.int .u64 x5) := fun j => (hA5.keep (hf j)).val (i := 5) (by simp)
  have cb : ∀ j, (fw j).cell? ⟨gb, 5, none⟩ = some (.int .u64 y5) := fun j => (hB5.keep (hf j)).val (i := 5) (by simp)
  repeat (go_big_quiet_step (fail))
  refine wpQuiet_nil ?_
  intro w6 hq
  clear ca cb hf hback run5
  have co := (hA5.keep hq).val (i := 5) (by simp)
  have zo := (hA5.keep hq).frozen 5
  obtain ⟨v6, hv⟩ : ∃ v, w6.setCell ⟨ga, 5, none⟩ (.int .u64 s5) = v := ⟨_, rfl⟩
  have hA6 : Has v6 ga ta (vals .u64 [s0, s1, s2, s3, s4, s5]) := by rw [← hv]; exact (hA5.keep hq).set_ 5 (.int .u64 s5)
  have hB6 : Has v6 gb tb (vals .u64 [y0, y1, y2, y3, y4, y5]) := by rw [← hv]; exact (hB5.keep hq).far (p := ⟨ga, 5, none⟩) hne.symm _
  have hO6 : Only ga w v6 := by rw [← hv]; exact (hO5.trans (Only.of_below hq ga)).set_ (p := ⟨ga, 5, none⟩) rfl _
  clear hA5 hB5 hO5 hq
  go_wp2
  clear hv co zo w6
  go_end0
  refine ⟨rfl, [s0, s1, s2, s3, s4, s5], d5, hA6, rfl, BB.out, ?_, DD.out.1, DD.out.2, hO6⟩
  have := EE.out
  rw [num_of6, num_of6, num_of6, wp_six]
  omega

set_option maxRecDepth 100000 in
set_option maxHeartbeats 2000000 in
theorem takeFrom_c (ga gb : Nat) (ta tb : TypeId) (a b : List Int) (hla : a.length = 6) (hlb : b.length = 6) (hwa : Words a) (hwb : Words b) (hne : ga ≠ gb) (w : World) (hA0 : Has w ga ta (vals .u64 a)) (hB0 : Has w gb tb (vals .u64 b)) :
    Calls Tryz.prog 92 #[.pointer (some ⟨ga, 0, none⟩), .pointer (some ⟨gb, 0, none⟩)] w fun e w' => ∃ (o : List Int) (d : Int), e = .returned (.int .u64 d) ∧ Has w' ga ta (vals .u64 o) ∧ o.length = 6 ∧ Words o ∧ num o - wp 6 * d = num a - num b ∧ 0 ≤ d ∧ d ≤ 1 ∧ Only ga w w' := by
  obtain ⟨x0, x1, x2, x3, x4, x5, rfl⟩ := six_of hla
  obtain ⟨y0, y1, y2, y3, y4, y5, rfl⟩ := six_of hlb
  obtain ⟨bx0, bx1, bx2, bx3, bx4, bx5⟩ := words6 hwa
  obtain ⟨by0, by1, by2, by3, by4, by5⟩ := words6 hwb
  clear hla hlb hwa hwb
  have hO0 : Only ga w w := Only.refl _ _
  obtain ⟨s0, d0, run0, E0, B0, D0⟩ := subc_told x0 y0 0 bx0 by0 ⟨by omega, by omega⟩
  obtain ⟨s1, d1, run1, E1, B1, D1⟩ := subc_told x1 y1 d0 bx1 by1 D0
  obtain ⟨s2, d2, run2, E2, B2, D2⟩ := subc_told x2 y2 d1 bx2 by2 D1
  obtain ⟨s3, d3, run3, E3, B3, D3⟩ := subc_told x3 y3 d2 bx3 by3 D2
  obtain ⟨s4, d4, run4, E4, B4, D4⟩ := subc_told x4 y4 d3 bx4 by4 D3
  obtain ⟨s5, d5, run5, E5, B5, D5⟩ := subc_told x5 y5 d4 bx5 by5 D4
  have EE : Keep _ := ⟨And.intro E0.out (And.intro E1.out (And.intro E2.out (And.intro E3.out (And.intro E4.out E5.out))))⟩
  have BB : Keep _ := ⟨words6_of B0.out B1.out B2.out B3.out B4.out B5.out⟩
  have DD : Keep _ := ⟨D5⟩
  clear bx0 bx1 bx2 bx3 bx4 bx5 by0 by1 by2 by3 by4 by5 E0 E1 E2 E3 E4 E5 B0 B1 B2 B3 B4 B5 D0 D1 D2 D3 D4 D5
  go_enter Tryz.func92, Tryz.ntmps92
  go_wp2
  refine wp_write 15 (by rfl) (by kernel_rfl) (by kernel_rfl) (by kernel_rfl) (fun _ _ d _ _ h => by cases d <;> exact h) (fun I hI' fw hf hback => ?_)
  simp only [List.take_succ_cons, List.take_zero]
  have ca : ∀ j, (fw j).cell? ⟨ga, 0, none⟩ = some (.int .u64 x0) := fun j => (hA0.keep (hf j)).val (i := 0) (by simp)
  have cb : ∀ j, (fw j).cell? ⟨gb, 0, none⟩ = some (.int .u64 y0) := fun j => (hB0.keep (hf j)).val (i := 0) (by simp)
  repeat (go_big_quiet_step (fail))
  refine wpQuiet_nil ?_
  intro w1 hq
  clear ca cb hf hback run0
  have co := (hA0.keep hq).val (i := 0) (by simp)
  have zo := (hA0.keep hq).frozen 0
  obtain ⟨v1, hv⟩ : ∃ v, w1.setCell ⟨ga, 0, none⟩ (.int .u64 s0) = v := ⟨_, rfl⟩
  have hA1 : Has v1 ga ta (vals .u64 [s0, x1, x2, x3, x4, x5]) := by rw [← hv]; exact (hA0.keep hq).set_ 0 (.int .u64 s0)
  have hB1 : Has v1 gb tb (vals .u64 [y0, y1, y2, y3, y4, y5]) := by rw [← hv]; exact (hB0.keep hq).far (p := ⟨ga, 0, none⟩) hne.symm _
  have hO1 : Only ga w v1 := by rw [← hv]; exact (hO0.trans (Only.of_below hq ga)).set_ (p := ⟨ga, 0, none⟩) rfl _
  clear hA0 hB0 hO0 hq
  go_wp2
  clear hv co zo w1
  go_wp2
  refine wp_write 16 (by rfl) (by kernel_rfl) (by kernel_rfl) (by kernel_rfl) (fun _ _ d _ _ h => by cases d <;> exact h) (fun I hI' fw hf hback => ?_)
  simp only [List.take_succ_cons, List.take_zero]
  have ca : ∀ j, (fw j).cell? ⟨ga, 1, none⟩ = some (.int .u64 x1) := fun j => (hA1.keep (hf j)).val (i := 1) (by simp)
  have cb : ∀ j, (fw j).cell? ⟨gb, 1, none⟩ = some (.int .u64 y1) := fun j => (hB1.keep (hf j)).val (i := 1) (by simp)
  repeat (go_big_quiet_step (fail))
  refine wpQuiet_nil ?_
  intro w2 hq
  clear ca cb hf hback run1
  have co := (hA1.keep hq).val (i := 1) (by simp)
  have zo := (hA1.keep hq).frozen 1
  obtain ⟨v2, hv⟩ : ∃ v, w2.setCell ⟨ga, 1, none⟩ (.int .u64 s1) = v := ⟨_, rfl⟩
  have hA2 : Has v2 ga ta (vals .u64 [s0, s1, x2, x3, x4, x5]) := by rw [← hv]; exact (hA1.keep hq).set_ 1 (.int .u64 s1)
  have hB2 : Has v2 gb tb (vals .u64 [y0, y1, y2, y3, y4, y5]) := by rw [← hv]; exact (hB1.keep hq).far (p := ⟨ga, 1, none⟩) hne.symm _
  have hO2 : Only ga w v2 := by rw [← hv]; exact (hO1.trans (Only.of_below hq ga)).set_ (p := ⟨ga, 1, none⟩) rfl _
  clear hA1 hB1 hO1 hq
  go_wp2
  clear hv co zo w2
  go_wp2
  refine wp_write 16 (by rfl) (by kernel_rfl) (by kernel_rfl) (by kernel_rfl) (fun _ _ d _ _ h => by cases d <;> exact h) (fun I hI' fw hf hback => ?_)
  simp only [List.take_succ_cons, List.take_zero]
  have ca : ∀ j, (fw j).cell? ⟨ga, 2, none⟩ = some (.int .u64 x2) := fun j => (hA2.keep (hf j)).val (i := 2) (by simp)
  have cb : ∀ j, (fw j).cell? ⟨gb, 2, none⟩ = some (.int .u64 y2) := fun j => (hB2.keep (hf j)).val (i := 2) (by simp)
  repeat (go_big_quiet_step (fail))
  refine wpQuiet_nil ?_
  intro w3 hq
  clear ca cb hf hback run2
  have co := (hA2.keep hq).val (i := 2) (by simp)
  have zo := (hA2.keep hq).frozen 2
  obtain ⟨v3, hv⟩ : ∃ v, w3.setCell ⟨ga, 2, none⟩ (.int .u64 s2) = v := ⟨_, rfl⟩
  have hA3 : Has v3 ga ta (vals .u64 [s0, s1, s2, x3, x4, x5]) := by rw [← hv]; exact (hA2.keep hq).set_ 2 (.int .u64 s2)
  have hB3 : Has v3 gb tb (vals .u64 [y0, y1, y2, y3, y4, y5]) := by rw [← hv]; exact (hB2.keep hq).far (p := ⟨ga, 2, none⟩) hne.symm _
  have hO3 : Only ga w v3 := by rw [← hv]; exact (hO2.trans (Only.of_below hq ga)).set_ (p := ⟨ga, 2, none⟩) rfl _
  clear hA2 hB2 hO2 hq
  go_wp2
  clear hv co zo w3
  go_wp2
  refine wp_write 16 (by rfl) (by kernel_rfl) (by kernel_rfl) (by kernel_rfl) (fun _ _ d _ _ h => by cases d <;> exact h) (fun I hI' fw hf hback => ?_)
  simp only [List.take_succ_cons, List.take_zero]
  have ca : ∀ j, (fw j).cell? ⟨ga, 3, none⟩ = some (.int .u64 x3) := fun j => (hA3.keep (hf j)).val (i := 3) (by simp)
  have cb : ∀ j, (fw j).cell? ⟨gb, 3, none⟩ = some (.int .u64 y3) := fun j => (hB3.keep (hf j)).val (i := 3) (by simp)
  repeat (go_big_quiet_step (fail))
  refine wpQuiet_nil ?_
  intro w4 hq
  clear ca cb hf hback run3
  have co := (hA3.keep hq).val (i := 3) (by simp)
  have zo := (hA3.keep hq).frozen 3
  obtain ⟨v4, hv⟩ : ∃ v, w4.setCell ⟨ga, 3, none⟩ (.int .u64 s3) = v := ⟨_, rfl⟩
  have hA4 : Has v4 ga ta (vals .u64 [s0, s1, s2, s3, x4, x5]) := by rw [← hv]; exact (hA3.keep hq).set_ 3 (.int .u64 s3)
  have hB4 : Has v4 gb tb (vals .u64 [y0, y1, y2, y3, y4, y5]) := by rw [← hv]; exact (hB3.keep hq).far (p := ⟨ga, 3, none⟩) hne.symm _
  have hO4 : Only ga w v4 := by rw [← hv]; exact (hO3.trans (Only.of_below hq ga)).set_ (p := ⟨ga, 3, none⟩) rfl _
  clear hA3 hB3 hO3 hq
  go_wp2
  clear hv co zo w4
  go_wp2
  refine wp_write 16 (by rfl) (by kernel_rfl) (by kernel_rfl) (by kernel_rfl) (fun _ _ d _ _ h => by cases d <;> exact h) (fun I hI' fw hf hback => ?_)
  simp only [List.take_succ_cons, List.take_zero]
  have ca : ∀ j, (fw j).cell? ⟨ga, 4, none⟩ = some (.int .u64 x4) := fun j => (hA4.keep (hf j)).val (i := 4) (by simp)
  have cb : ∀ j, (fw j).cell? ⟨gb, 4, none⟩ = some (.int .u64 y4) := fun j => (hB4.keep (hf j)).val (i := 4) (by simp)
  repeat (go_big_quiet_step (fail))
  refine wpQuiet_nil ?_
  intro w5 hq
  clear ca cb hf hback run4
  have co := (hA4.keep hq).val (i := 4) (by simp)
  have zo := (hA4.keep hq).frozen 4
  obtain ⟨v5, hv⟩ : ∃ v, w5.setCell ⟨ga, 4, none⟩ (.int .u64 s4) = v := ⟨_, rfl⟩
  have hA5 : Has v5 ga ta (vals .u64 [s0, s1, s2, s3, s4, x5]) := by rw [← hv]; exact (hA4.keep hq).set_ 4 (.int .u64 s4)
  have hB5 : Has v5 gb tb (vals .u64 [y0, y1, y2, y3, y4, y5]) := by rw [← hv]; exact (hB4.keep hq).far (p := ⟨ga, 4, none⟩) hne.symm _
  have hO5 : Only ga w v5 := by rw [← hv]; exact (hO4.trans (Only.of_below hq ga)).set_ (p := ⟨ga, 4, none⟩) rfl _
  clear hA4 hB4 hO4 hq
  go_wp2
  clear hv co zo w5
  go_wp2
  refine wp_write 16 (by rfl) (by kernel_rfl) (by kernel_rfl) (by kernel_rfl) (fun _ _ d _ _ h => by cases d <;> exact h) (fun I hI' fw hf hback => ?_)
  simp only [List.take_succ_cons, List.take_zero]
  have ca : ∀ j, (fw j).cell? ⟨ga, 5, none⟩ = some (.int .u64 x5) := fun j => (hA5.keep (hf j)).val (i := 5) (by simp)
  have cb : ∀ j, (fw j).cell? ⟨gb, 5, none⟩ = some (.int .u64 y5) := fun j => (hB5.keep (hf j)).val (i := 5) (by simp)
  repeat (go_big_quiet_step (fail))
  refine wpQuiet_nil ?_
  intro w6 hq
  clear ca cb hf hback run5
  have co := (hA5.keep hq).val (i := 5) (by simp)
  have zo := (hA5.keep hq).frozen 5
  obtain ⟨v6, hv⟩ : ∃ v, w6.setCell ⟨ga, 5, none⟩ (.int .u64 s5) = v := ⟨_, rfl⟩
  have hA6 : Has v6 ga ta (vals .u64 [s0, s1, s2, s3, s4, s5]) := by rw [← hv]; exact (hA5.keep hq).set_ 5 (.int .u64 s5)
  have hB6 : Has v6 gb tb (vals .u64 [y0, y1, y2, y3, y4, y5]) := by rw [← hv]; exact (hB5.keep hq).far (p := ⟨ga, 5, none⟩) hne.symm _
  have hO6 : Only ga w v6 := by rw [← hv]; exact (hO5.trans (Only.of_below hq ga)).set_ (p := ⟨ga, 5, none⟩) rfl _
  clear hA5 hB5 hO5 hq
  go_wp2
  clear hv co zo w6
  go_ret
  refine ⟨[s0, s1, s2, s3, s4, s5], d5, rfl, hA6, rfl, BB.out, ?_, DD.out.1, DD.out.2, hO6⟩
  have := EE.out
  rw [num_of6, num_of6, num_of6, wp_six]
  omega
end Go.Proofs.YtmohopjblhgdiaaGreatDoor.Fp
