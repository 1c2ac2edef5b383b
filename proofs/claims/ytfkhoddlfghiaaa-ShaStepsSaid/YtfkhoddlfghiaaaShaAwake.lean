/-
  Own text. The statements' head (awake) answers true.
-/
import Derived.Test.YtfkhoddlfghiaaaShaSum2
import Derived.Lib.SlBytesConst
namespace Go.Proofs.Ytfkhoddlfghiaaa.Sha
open Go Go.RowKit Go.Proofs.Ytfkhoddlfghiaaa.Reg

set_option maxRecDepth 100000 in
theorem sum_none : nth (sumL []) 0 = 227 ∧ nth (sumL []) 31 = 85 := by decide +kernel
set_option maxRecDepth 100000 in
theorem sum_abc : nth (sumL [97, 98, 99]) 0 = 186 ∧ nth (sumL [97, 98, 99]) 31 = 173 := by decide +kernel
theorem sumL_len (bs : List Int) : (sumL bs).length = 32 := fill_len _ _ _ _
theorem pad_none : nth (padL []) 0 = 128 := by decide +kernel

set_option maxRecDepth 100000 in
set_option maxHeartbeats 2000000 in
theorem awake_c (w : World) : Calls Try.prog 8 #[] w fun e w' => e = .returned (.bool true) ∧ Below w.heap.size w w' := by
  obtain ⟨s0, hs0⟩ : ∃ s, sumL [] = s := ⟨_, rfl⟩
  obtain ⟨s1, hs1⟩ : ∃ s, sumL [97, 98, 99] = s := ⟨_, rfl⟩
  have n0 := sum_none
  have n1 := sum_abc
  have l0 := sumL_len []
  have l1 := sumL_len [97, 98, 99]
  rw [hs0] at n0 l0
  rw [hs1] at n1 l1
  have H0s : Keep _ := ⟨hs0⟩
  have H1s : Keep _ := ⟨hs1⟩
  have N0 : Keep _ := ⟨n0⟩
  have N1 : Keep _ := ⟨n1⟩
  have L0 : Keep _ := ⟨l0⟩
  have L1 : Keep _ := ⟨l1⟩
  clear hs0 hs1 n0 n1 l0 l1
  have hcv := fun (w : World) (C : Array Value) (n c : Nat) => Lib.run_convert_bytes_const (P := Try.prog) w 22 5 C n c Try.underlying22 Try.underlying5
  go_enter Try.func8, Try.ntmps8
  go_wp2_with fail
  refine (sum_c none 0 0 [] 0 w Rd.nil_ (fun i => by simp [nth]) (Nat.zero_le _) (by omega)).mono ?_
  rintro e w1 ⟨rfl, hb1⟩
  rw [H0s.out]
  go_wp2_with (refine store_abs2 (by rfl) 27 (.tmp 1) (.tmp 4) (by rfl) (by rfl) w1.heap.size (vals .u8 s0) (by rfl) (by rfl) 27 (vals .u8 Z32) (Has.new' _ rfl _ _) (by rw [vals_size, L0.out]; kernel_rfl) (by rw [vals_size, vals_size, L0.out]; rfl) vals_one ?_
               intro w2 hA2 hkeep hbg
               have hb2 := hb1.trans ((((Below.refl w1.heap.size w1).alloc (Nat.le_refl _) (.cells (vals .u8 Z32) 27)).trans hbg).mono hb1.size)
               clear hkeep hbg hb1)
  have hb3 := hb2.alloc hb2.size (.cells #[.int .u8 97, .int .u8 98, .int .u8 99] 5 (3, 4))
  have hA3 := hA2.alloc (.cells #[.int .u8 97, .int .u8 98, .int .u8 99] 5 (3, 4))
  have hr3 : Rd (w2.alloc (.cells #[.int .u8 97, .int .u8 98, .int .u8 99] 5 (3, 4))) (w2.heap.size + 1) (some ⟨w2.heap.size, 0, none⟩) 3 .u8 [97, 98, 99] := ⟨rfl, fun _ => ⟨w2.heap.size, 0, rfl, by omega, fun j hj => by
    rw [World.cell?_alloc_mark]
    have : j = 0 ∨ j = 1 ∨ j = 2 := by omega
    rcases this with rfl | rfl | rfl <;> rfl⟩⟩
  have hby : Bytes [97, 98, 99] := bytes_of _ (by
    intro i hi
    have : i = 0 ∨ i = 1 ∨ i = 2 := by simp at hi; omega
    rcases this with rfl | rfl | rfl <;> simp [nth])
  refine (sum_c (some ⟨w2.heap.size, 0, none⟩) 3 3 [97, 98, 99] (w2.heap.size + 1) _ hr3 hby (by rw [World.size_alloc]; omega) (by omega)).mono ?_
  rintro e w4 ⟨rfl, hb4⟩
  rw [H1s.out]
  have hA4 := hA3.keep hb4
  have hb5 := hb3.trans (hb4.mono hb3.size)
  clear hb3 hb4 hA3 hr3 hby hA2 hb2
  go_wp2_with (refine store_abs2 (by rfl) 27 (.tmp 2) (.tmp 7) (by rfl) (by rfl) w4.heap.size (vals .u8 s1) (by rfl) (by rfl) 27 (vals .u8 Z32) (Has.new' _ rfl _ _) (by rw [vals_size, L1.out]; kernel_rfl) (by rw [vals_size, vals_size, L1.out]; rfl) vals_one ?_
               intro w6 hB6 hkeep hbg
               have hA6 := hkeep _ _ _ (hA4.alloc _) (by have := hA4.lt; omega)
               have hb6 := hb5.trans ((((Below.refl w4.heap.size w4).alloc (Nat.le_refl _) (.cells (vals .u8 Z32) 27)).trans hbg).mono hb5.size)
               clear hkeep hbg hb5 hA4)
  refine (pad_c none 0 0 [] 0 _ Rd.nil_ (Nat.zero_le _) (by omega)).mono ?_
  rintro e w7 ⟨rfl, hP7, hb7⟩
  have hA7 := hA6.keep hb7
  have hB7 := hB6.keep hb7
  have hb8 := hb6.trans (hb7.mono hb6.size)
  have a0 : w7.cell? ⟨w1.heap.size, 0, none⟩ = some (.int .u8 227) := by have := hA7.val (i := 0) (by rw [L0.out]; omega); rwa [N0.out.1] at this
  have a31 : w7.cell? ⟨w1.heap.size, 31, none⟩ = some (.int .u8 85) := by have := hA7.val (i := 31) (by rw [L0.out]; omega); rwa [N0.out.2] at this
  have b0 : w7.cell? ⟨w4.heap.size, 0, none⟩ = some (.int .u8 186) := by have := hB7.val (i := 0) (by rw [L1.out]; omega); rwa [N1.out.1] at this
  have b31 : w7.cell? ⟨w4.heap.size, 31, none⟩ = some (.int .u8 173) := by have := hB7.val (i := 31) (by rw [L1.out]; omega); rwa [N1.out.2] at this
  have p0 : w7.cell? ⟨w6.heap.size, 0, none⟩ = some (.int .u8 128) := by have := hP7.val (i := 0) (by rw [padL_len]; decide); rwa [pad_none] at this
  have hi : ∀ w : World, (Instr.index 31 (.agg (vals .u32 H0)) (.int .i64 0)).run Try.prog w = .ok (.int .u32 1779033703) w := fun w => run_index_vals (P := Try.prog) (k := .u32) (xs := H0) (i := 0) Try.underlying31 Try.underlying30 rfl (by kernel_rfl) rfl (by omega) w
  rw [show padLen 0 = 64 from rfl]
  go_wp2_with (go_at_call 16; refine (begin_c _).mono ?_; rintro e w9 ⟨rfl, hb9⟩)
  go_ret
  exact ⟨rfl, hb8.trans (hb9.mono hb8.size)⟩
end Go.Proofs.Ytfkhoddlfghiaaa.Sha
