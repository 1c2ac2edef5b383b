/-
  Own text. The contracts of the small functions of package sha and of its reference.
-/
import Derived.Test.YtkjbfkhiijnemaaRows
import Derived.Test.YtkjbfkhiijnemaaShaSpec
import Derived.WalkKit
import Derived.WalkSpells
import Derived.WalkLawsBesides
import Derived.Deep.QuietTactic
import Derived.BigQuiet
namespace Go.Proofs.Ytkjbfkhiijnemaa.Sha
open Go Go.RowKit Go.Proofs.Ytkjbfkhiijnemaa.Reg

theorem ret_eq {v v' : Value} (h : v = v') : Ending.returned v = .returned v' := by rw [h]

set_option maxHeartbeats 400000 in
theorem turner1_c (x n : Int) (hn : 0 ≤ n) (hn2 : n ≤ 32) (a : Addr) (w : World) (hc : w.cell? a = some (.int .u32 x)) :
    Calls Try.prog 46 #[.int .i64 n, .pointer (some a)] w fun e w' => e = .returned (.int .u32 (rot x n)) ∧ Below w.heap.size w w' := by
  go_enter Try.func46, Try.ntmps46
  go_wp2
  go_quiet (fail)
  go_wp2
  go_ret
  exact ⟨rfl, ⟨rfl, rfl, rfl, Nat.le_refl _, fun _ _ => rfl⟩⟩

set_option maxHeartbeats 400000 in
theorem turner_c (x : Int) (w : World) :
    Calls Try.prog 44 #[.int .u32 x] w fun e w' => e = .returned (.func (.func 46) #[] #[.pointer (some ⟨w.heap.size, 0, none⟩)]) ∧ Below w.heap.size w w' ∧ w'.cell? ⟨w.heap.size, 0, none⟩ = some (.int .u32 x) := by
  have hb : Below w.heap.size w (w.alloc (.cells #[.int .u32 x] 39)) := (Below.refl _ _).alloc (Nat.le_refl _) _
  have hc : (w.alloc (.cells #[.int .u32 x] 39)).cell? ⟨w.heap.size, 0, none⟩ = some (.int .u32 x) := (Has.new w 39 #[.int .u32 x]).cell 0
  go_enter Try.func44, Try.ntmps44
  go_wp2
  go_ret
  exact ⟨rfl, hb, hc⟩

set_option maxHeartbeats 400000 in
theorem stateSigma1_c (x : Int) (w : World) :
    Calls Try.prog 33 #[.int .u32 x] w fun e w' => e = .returned (.int .u32 (S1 x)) ∧ Below w.heap.size w w' := by
  go_enter Try.func33, Try.ntmps33
  go_wp2_with fail
  refine (turner_c x w).mono ?_
  rintro e w0 ⟨rfl, hbb0, hc0⟩
  go_wp2_with fail
  refine (turner1_c x 6 (by omega) (by omega) _ _ hc0).mono ?_
  rintro e w1 ⟨rfl, hb1⟩
  have hc1 := (hb1.cell (block_lt_of_cell hc0)).trans hc0
  have hbb1 := hbb0.trans (hb1.mono hbb0.size)
  go_wp2_with fail
  refine (turner1_c x 11 (by omega) (by omega) _ _ hc1).mono ?_
  rintro e w2 ⟨rfl, hb2⟩
  have hc2 := (hb2.cell (block_lt_of_cell hc1)).trans hc1
  have hbb2 := hbb1.trans (hb2.mono hbb1.size)
  go_wp2_with fail
  refine (turner1_c x 25 (by omega) (by omega) _ _ hc2).mono ?_
  rintro e w3 ⟨rfl, hb3⟩
  have hc3 := (hb3.cell (block_lt_of_cell hc2)).trans hc2
  have hbb3 := hbb2.trans (hb3.mono hbb2.size)
  go_wp2_with fail
  go_ret
  exact ⟨rfl, hbb3⟩

set_option maxHeartbeats 400000 in
theorem stateSigma0_c (x : Int) (w : World) :
    Calls Try.prog 35 #[.int .u32 x] w fun e w' => e = .returned (.int .u32 (S0 x)) ∧ Below w.heap.size w w' := by
  go_enter Try.func35, Try.ntmps35
  go_wp2_with fail
  refine (turner_c x w).mono ?_
  rintro e w0 ⟨rfl, hbb0, hc0⟩
  go_wp2_with fail
  refine (turner1_c x 2 (by omega) (by omega) _ _ hc0).mono ?_
  rintro e w1 ⟨rfl, hb1⟩
  have hc1 := (hb1.cell (block_lt_of_cell hc0)).trans hc0
  have hbb1 := hbb0.trans (hb1.mono hbb0.size)
  go_wp2_with fail
  refine (turner1_c x 13 (by omega) (by omega) _ _ hc1).mono ?_
  rintro e w2 ⟨rfl, hb2⟩
  have hc2 := (hb2.cell (block_lt_of_cell hc1)).trans hc1
  have hbb2 := hbb1.trans (hb2.mono hbb1.size)
  go_wp2_with fail
  refine (turner1_c x 22 (by omega) (by omega) _ _ hc2).mono ?_
  rintro e w3 ⟨rfl, hb3⟩
  have hc3 := (hb3.cell (block_lt_of_cell hc2)).trans hc2
  have hbb3 := hbb2.trans (hb3.mono hbb2.size)
  go_wp2_with fail
  go_ret
  exact ⟨rfl, hbb3⟩

set_option maxHeartbeats 400000 in
theorem scheduleSigma1_c (x : Int) (w : World) :
    Calls Try.prog 42 #[.int .u32 x] w fun e w' => e = .returned (.int .u32 (s1 x)) ∧ Below w.heap.size w w' := by
  go_enter Try.func42, Try.ntmps42
  go_wp2_with fail
  refine (turner_c x w).mono ?_
  rintro e w0 ⟨rfl, hbb0, hc0⟩
  go_wp2_with fail
  refine (turner1_c x 17 (by omega) (by omega) _ _ hc0).mono ?_
  rintro e w1 ⟨rfl, hb1⟩
  have hc1 := (hb1.cell (block_lt_of_cell hc0)).trans hc0
  have hbb1 := hbb0.trans (hb1.mono hbb0.size)
  go_wp2_with fail
  refine (turner1_c x 19 (by omega) (by omega) _ _ hc1).mono ?_
  rintro e w2 ⟨rfl, hb2⟩
  have hc2 := (hb2.cell (block_lt_of_cell hc1)).trans hc1
  have hbb2 := hbb1.trans (hb2.mono hbb1.size)
  go_wp2_with fail
  go_ret
  exact ⟨rfl, hbb2⟩

set_option maxHeartbeats 400000 in
theorem scheduleSigma0_c (x : Int) (w : World) :
    Calls Try.prog 43 #[.int .u32 x] w fun e w' => e = .returned (.int .u32 (s0 x)) ∧ Below w.heap.size w w' := by
  go_enter Try.func43, Try.ntmps43
  go_wp2_with fail
  refine (turner_c x w).mono ?_
  rintro e w0 ⟨rfl, hbb0, hc0⟩
  go_wp2_with fail
  refine (turner1_c x 7 (by omega) (by omega) _ _ hc0).mono ?_
  rintro e w1 ⟨rfl, hb1⟩
  have hc1 := (hb1.cell (block_lt_of_cell hc0)).trans hc0
  have hbb1 := hbb0.trans (hb1.mono hbb0.size)
  go_wp2_with fail
  refine (turner1_c x 18 (by omega) (by omega) _ _ hc1).mono ?_
  rintro e w2 ⟨rfl, hb2⟩
  have hc2 := (hb2.cell (block_lt_of_cell hc1)).trans hc1
  have hbb2 := hbb1.trans (hb2.mono hbb1.size)
  go_wp2_with fail
  go_ret
  exact ⟨rfl, hbb2⟩

theorem u32_signed : (IntKind.u32.signed = true) = False := by simp [IntKind.signed]
attribute [local go_sem] u32_signed

set_option maxHeartbeats 400000 in
theorem choose_c (a b c : Int) (w : World) :
    Calls Try.prog 34 #[.int .u32 a, .int .u32 b, .int .u32 c] w fun e w' => e = .returned (.int .u32 (ch a b c)) ∧ Below w.heap.size w w' := by
  go_enter Try.func34, Try.ntmps34
  go_wp2
  go_ret
  exact ⟨rfl, Below.refl _ _⟩

set_option maxHeartbeats 400000 in
theorem majority_c (a b c : Int) (w : World) :
    Calls Try.prog 36 #[.int .u32 a, .int .u32 b, .int .u32 c] w fun e w' => e = .returned (.int .u32 (maj a b c)) ∧ Below w.heap.size w w' := by
  go_enter Try.func36, Try.ntmps36
  go_wp2
  go_ret
  exact ⟨rfl, Below.refl _ _⟩

set_option maxHeartbeats 400000 in
theorem turn_c (x n : Int) (hn : 0 ≤ n) (hn2 : n ≤ 32) (w : World) :
    Calls Try.prog 40 #[.int .u32 x, .int .u64 n] w fun e w' => e = .returned (.int .u32 (rot x n)) ∧ Below w.heap.size w w' := by
  go_enter Try.func40, Try.ntmps40
  go_wp2
  go_ret
  exact ⟨rfl, Below.refl _ _⟩

set_option maxHeartbeats 400000 in
theorem paddedLen_c (n : Int) (hn : 0 ≤ n) (hn2 : n ≤ 140737488355328) (w : World) :
    Calls Try.prog 31 #[.int .i64 n] w fun e w' => e = .returned (.int .i64 ((n + 72) / 64 * 64)) ∧ Below w.heap.size w w' := by
  go_enter Try.func31, Try.ntmps31
  go_wp2
  go_ret
  exact ⟨ret_eq (show Value.int .i64 ((n + 1 + 8 + 64 - 1) / 64 * 64) = _ by rw [show n + 1 + 8 + 64 - 1 = n + 72 by omega]), Below.refl _ _⟩
end Go.Proofs.Ytkjbfkhiijnemaa.Sha
