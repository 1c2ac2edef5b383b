/-
  Own text. The statements' head of layer 2 (awake) answers true; few tells sizes.
-/
import Derived.Test.YtkjbfkhiijnemaaHkOwn
import Derived.Test.YtkjbfkhiijnemaaHkKnown
import Derived.Lib.SlBytesConst
namespace Go.Proofs.Ytkjbfkhiijnemaa.Hk
open Go Go.RowKit Go.Proofs.Ytkjbfkhiijnemaa.Reg Go.Proofs.Ytkjbfkhiijnemaa.Sha

theorem name_bytes : Bytes nameL := bytes_of _ (by decide)
theorem fox_bytes : Bytes foxL := bytes_of _ (by decide)
theorem rd_mark (w : World) (t : TypeId) (mk : Nat × Nat) (xs : List Int) (C : Array Value) (hC : C = vals .u8 xs) (n : Nat) (hn : xs.length = n) : Rd (w.alloc (.cells C t mk)) (w.heap.size + 1) (some ⟨w.heap.size, 0, none⟩) n .u8 xs :=
  ⟨hn, fun _ => ⟨w.heap.size, 0, rfl, by omega, fun j hj => by
    rw [World.cell?_alloc_mark, Nat.zero_add, hC]
    exact vals_get (by omega)⟩⟩

theorem expand_three (w : World) : Calls Try.prog 10 #[.slice none 0 0, .slice none 0 0, .int .i64 3] w fun e w' => ∃ A c, e = .returned (.tuple #[.slice A 3 c, .int .i64 0]) ∧ Below w.heap.size w w' :=
  (expand_c none 0 0 [] none 0 0 [] 3 0 w Rd.nil_ bytes_nil Rd.nil_ bytes_nil (Nat.zero_le _) (by omega) (by omega) (by omega)).mono fun _ _ ⟨A, c, he, _, _, hb⟩ => ⟨A, c, he, hb⟩

set_option maxRecDepth 100000 in
set_option maxHeartbeats 600000 in
theorem awake_c (w : World) : Calls Try.prog 8 #[] w fun e w' => e = .returned (.bool true) ∧ Below w.heap.size w w' := by
  obtain ⟨s0, hs0⟩ : ∃ s, macL [] [] = s := ⟨_, rfl⟩
  obtain ⟨s1, hs1⟩ : ∃ s, macL nameL foxL = s := ⟨_, rfl⟩
  have n0 := mac_none
  have n1 := mac_fox
  have l0 := macL_len [] []
  have l1 := macL_len nameL foxL
  rw [hs0] at n0 l0
  rw [hs1] at n1 l1
  have H0s : Keep _ := ⟨hs0⟩
  have H1s : Keep _ := ⟨hs1⟩
  have N0 : Keep _ := ⟨n0⟩
  have N1 : Keep _ := ⟨n1⟩
  have L0 : Keep _ := ⟨l0⟩
  have L1 : Keep _ := ⟨l1⟩
  clear hs0 hs1 n0 n1 l0 l1
  have hcv := fun (w : World) (C : Array Value) (n c : Nat) => Lib.run_convert_bytes_const (P := Try.prog) w 23 5 C n c Try.underlying23 Try.underlying5
  have hcv2 : ∀ (w : World) (o : Obj) (C : Array Value) (n c : Nat), (convert 23 23 (.slice (some ⟨w.heap.size + 1, 0, none⟩) n c)).run Try.prog ((w.alloc o).alloc (.cells C 5)) = .ok (.slice (some ⟨w.heap.size + 1, 0, none⟩) n c) ((w.alloc o).alloc (.cells C 5 (C.size, C.size + 1))) := fun w o C n c => by
    have := hcv (w.alloc o) C n c
    rwa [World.size_alloc] at this
  go_enter Try.func8, Try.ntmps8
  go_wp2_with fail
  refine (mac_c none 0 0 [] none 0 0 [] 0 w Rd.nil_ bytes_nil Rd.nil_ bytes_nil (Nat.zero_le _) (by omega) (by omega)).mono ?_
  rintro e w1 ⟨rfl, hb1⟩
  rw [H0s.out]
  go_wp2_with (refine store_abs2 (by rfl) 29 (.tmp 1) (.tmp 7) (by rfl) (by rfl) w1.heap.size (vals .u8 s0) (by rfl) (by rfl) 29 (vals .u8 Z32) (Has.new' _ rfl _ _) (by rw [vals_size, L0.out]; kernel_rfl) (by rw [vals_size, vals_size, L0.out]; rfl) vals_one ?_
               intro w2 hA2 hkeep hbg
               have hb2 := hb1.trans ((((Below.refl w1.heap.size w1).alloc (Nat.le_refl _) (.cells (vals .u8 Z32) 29)).trans hbg).mono hb1.size)
               clear hkeep hbg hb1)
  have hr3 := (rd_mark w2 5 (3, 4) nameL #[.int .u8 107, .int .u8 101, .int .u8 121] rfl 3 rfl)
  have hA3 := hA2.alloc (.cells #[.int .u8 107, .int .u8 101, .int .u8 121] 5 (3, 4))
  have hb3 := hb2.alloc hb2.size (.cells #[.int .u8 107, .int .u8 101, .int .u8 121] 5 (3, 4))
  generalize hw3 : w2.alloc (.cells #[.int .u8 107, .int .u8 101, .int .u8 121] 5 (3, 4)) = w3 at *
  change Calls _ _ _ (w3.alloc (.cells (vals .u8 foxL) 5 (43, 44))) _
  have hsz3 : w3.heap.size = w2.heap.size + 1 := by rw [← hw3]; exact World.size_alloc _ _
  have hr4 := (hr3.keep ((Below.refl w3.heap.size w3).alloc (Nat.le_refl _) (.cells (vals .u8 foxL) 5 (43, 44))) (by omega)).more (B' := w3.heap.size + 1) (by omega)
  have hf4 := rd_mark w3 5 (43, 44) foxL (vals .u8 foxL) rfl 43 rfl
  have hA4 := hA3.alloc (.cells (vals .u8 foxL) 5 (43, 44))
  have hb4 := hb3.alloc hb3.size (.cells (vals .u8 foxL) 5 (43, 44))
  have hsz4 : (w3.alloc (.cells (vals .u8 foxL) 5 (43, 44))).heap.size = w3.heap.size + 1 := World.size_alloc _ _
  rw [← hsz3]
  generalize w3.alloc (.cells (vals .u8 foxL) 5 (43, 44)) = w4 at *
  refine (mac_c (some ⟨w2.heap.size, 0, none⟩) 3 3 nameL (some ⟨w3.heap.size, 0, none⟩) 43 43 foxL (w3.heap.size + 1) w4 hr4 name_bytes hf4 fox_bytes (by omega) (by omega) (by omega)).mono ?_
  rintro e w5 ⟨rfl, hb5⟩
  rw [H1s.out]
  have hA5 := hA4.keep hb5
  have hbb5 := hb4.trans (hb5.mono hb4.size)
  clear hA2 hA3 hA4 hb2 hb3 hb4 hb5 hr3 hr4 hf4 hw3 hcv hcv2 hsz3 hsz4
  go_wp2_with (first
    | (refine store_abs2 (by rfl) 29 (.tmp 2) (.tmp 12) (by rfl) (by rfl) w5.heap.size (vals .u8 s1) (by rfl) (by rfl) 29 (vals .u8 Z32) (Has.new' _ rfl _ _) (by rw [vals_size, L1.out]; kernel_rfl) (by rw [vals_size, vals_size, L1.out]; rfl) vals_one ?_
       intro w6 hB6 hkeep hbg
       have hA6 := hkeep _ _ _ (hA5.alloc _) (by have := hA5.lt; omega)
       have hb6 := hbb5.trans ((((Below.refl w5.heap.size w5).alloc (Nat.le_refl _) (.cells (vals .u8 Z32) 29)).trans hbg).mono hbb5.size)
       clear hkeep hbg hbb5 hA5)
    | (go_at_call 10
       refine (expand_no none 0 0 none 0 0 8161 w7 (by omega)).mono ?_
       rintro e w8 ⟨rfl, hb8⟩
       have hA8 := hA7.keep hb8
       have hB8 := hB7.keep hb8
       have hbb8 := hbb7.trans (hb8.mono hbb7.size)
       have a0 : w8.cell? ⟨w1.heap.size, 0, none⟩ = some (.int .u8 182) := by have := hA8.val (i := 0) (by rw [L0.out]; omega); rwa [N0.out.1] at this
       have a1 : w8.cell? ⟨w1.heap.size, 1, none⟩ = some (.int .u8 19) := by have := hA8.val (i := 1) (by rw [L0.out]; omega); rwa [N0.out.2] at this
       have b0 : w8.cell? ⟨w5.heap.size, 0, none⟩ = some (.int .u8 247) := by have := hB8.val (i := 0) (by rw [L1.out]; omega); rwa [N1.out.1] at this
       have b1 : w8.cell? ⟨w5.heap.size, 1, none⟩ = some (.int .u8 188) := by have := hB8.val (i := 1) (by rw [L1.out]; omega); rwa [N1.out.2] at this
       clear hA8 hB8 hA7 hB7 hbb7 hb8)
    | (go_at_call 10
       refine (expand_three w6).mono ?_
       rintro e w7 ⟨A7, c7, rfl, hb7⟩
       have hA7 := hA6.keep hb7
       have hB7 := hB6.keep hb7
       have hbb7 := hb6.trans (hb7.mono hb6.size)
       clear hA6 hB6 hb7 hb6))
  go_ret
  exact ⟨rfl, hbb8⟩

theorem few_c (A : Option Addr) (n c : Nat) (A' : Option Addr) (n' c' : Nat) (w : World) : Calls Try.prog 9 #[.slice A n c, .slice A' n' c'] w fun e w' => e = .returned (.bool (decide (n ≤ 500 ∧ n' ≤ 500))) ∧ Below w.heap.size w w' := by
  rcases Nat.lt_or_ge 500 n with h | h
  · have hd : decide (n ≤ 500 ∧ n' ≤ 500) = false := decide_eq_false (by omega)
    rw [hd]
    clear hd
    go_enter Try.func9, Try.ntmps9
    go_wp2
    go_ret
    exact ⟨rfl, Below.refl _ _⟩
  · rcases Nat.lt_or_ge 500 n' with h' | h'
    · have hd : decide (n ≤ 500 ∧ n' ≤ 500) = false := decide_eq_false (by omega)
      rw [hd]
      clear hd
      go_enter Try.func9, Try.ntmps9
      go_wp2
      go_ret
      exact ⟨ret_eq (congrArg Value.bool (decide_eq_false (by omega))), Below.refl _ _⟩
    · have hd : decide (n ≤ 500 ∧ n' ≤ 500) = true := decide_eq_true (by omega)
      rw [hd]
      clear hd
      go_enter Try.func9, Try.ntmps9
      go_wp2
      go_ret
      exact ⟨ret_eq (congrArg Value.bool (decide_eq_true (by omega))), Below.refl _ _⟩
end Go.Proofs.Ytkjbfkhiijnemaa.Hk
