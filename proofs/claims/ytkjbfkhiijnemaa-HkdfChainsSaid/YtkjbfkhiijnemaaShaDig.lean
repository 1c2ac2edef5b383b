/-
  Own text. The contract of package sha's digest.
-/
import Derived.Test.YtkjbfkhiijnemaaShaStep2
namespace Go.Proofs.Ytkjbfkhiijnemaa.Sha
open Go Go.RowKit Go.Proofs.Ytkjbfkhiijnemaa.Reg

/-- A state's words as bytes. -/
def digF (h : List Int) (j : Nat) : Int := nth h (j / 4) / 2 ^ (24 - 8 * (j % 4)) % 256
def Z32 : List Int := List.replicate 32 0
def digL (h : List Int) : List Int := fill 32 (digF h) (nth Z32) 32

theorem digF0 (h : List Int) (k : Nat) : nth h k / 16777216 % 256 = digF h (4 * k) := by
  rw [digF, show 4 * k / 4 = k by omega, show 4 * k % 4 = 0 by omega]; rfl
theorem digF1 (h : List Int) (k : Nat) : nth h k / 65536 % 256 = digF h (4 * k + 1) := by
  rw [digF, show (4 * k + 1) / 4 = k by omega, show (4 * k + 1) % 4 = 1 by omega]; rfl
theorem digF2 (h : List Int) (k : Nat) : nth h k / 256 % 256 = digF h (4 * k + 2) := by
  rw [digF, show (4 * k + 2) / 4 = k by omega, show (4 * k + 2) % 4 = 2 by omega]; rfl
theorem digF3 (h : List Int) (k : Nat) : nth h k % 256 = digF h (4 * k + 3) := by
  rw [digF, show (4 * k + 3) / 4 = k by omega, show (4 * k + 3) % 4 = 3 by omega]; simp

set_option maxRecDepth 100000 in
set_option maxHeartbeats 1000000 in
theorem digest_c (hs : List Int) (hh : hs.length = 8) (w : World) :
    Calls Try.prog 25 #[.agg (vals .u32 hs)] w fun e w' => e = .returned (.agg (vals .u8 (digL hs))) ∧ Below w.heap.size w w' := by
  have ix : ∀ (k : Nat), k < 8 → ∀ w : World, (Instr.index 40 (.agg (vals .u32 hs)) (.int .i64 (k : Int))).run Try.prog w = .ok (.int .u32 (nth hs k)) w :=
    fun k hk w => run_index_vals Try.underlying40 Try.underlying39 rfl (by kernel_rfl) hh hk w
  have IX : Keep _ := ⟨ix⟩
  have Lh : Keep _ := ⟨hh⟩
  clear ix hh
  have hH1 : Has ((w.alloc (.cells (vals .u32 hs) 40)).alloc (.cells (vals .u8 Z32) 29)) w.heap.size 40 (vals .u32 hs) := (Has.new w _ _).alloc _
  have hR1 : Has ((w.alloc (.cells (vals .u32 hs) 40)).alloc (.cells (vals .u8 Z32) 29)) (w.heap.size + 1) 29 (vals .u8 Z32) := Has.new' _ (by simp) _ _
  have hD : Has (((w.alloc (.cells (vals .u32 hs) 40)).alloc (.cells (vals .u8 Z32) 29)).alloc (.cells (vals .u8 Z32) 29)) (w.heap.size + 1 + 1) 29 (vals .u8 (fill 32 (digF hs) (nth Z32) 0)) := by
    rw [fill_zero 32 _ Z32 rfl]
    exact Has.new' _ (by simp) _ _
  have hH := hH1.alloc (.cells (vals .u8 Z32) 29)
  have hR := hR1.alloc (.cells (vals .u8 Z32) 29)
  have hb : Below w.heap.size w (((w.alloc (.cells (vals .u32 hs) 40)).alloc (.cells (vals .u8 Z32) 29)).alloc (.cells (vals .u8 Z32) 29)) := (((Below.refl _ _).alloc (Nat.le_refl _) _).alloc (by simp) _).alloc (by simp <;> omega) _
  clear hH1 hR1
  go_enter Try.func25, Try.ntmps25
  go_wp2_with (refine wpList_load_row rfl 40 (.tmp 1) rfl w.heap.size rfl _ _ _ _ hH.eq Try.underlying40 rfl (by rw [vals_size, Lh.out]; kernel_rfl) ?_)
  go_loopw [7] (fun i wr => ∃ k : Nat, k ≤ 8 ∧ i = .int .i64 k ∧ Has wr (w.heap.size + 1) 29 (vals .u8 Z32) ∧ Has wr (w.heap.size + 1 + 1) 29 (vals .u8 (fill 32 (digF hs) (nth Z32) (4 * k))) ∧ Below w.heap.size w wr) (fun i _ => 8 - (intOf i).toNat)
  case atStart => exact ⟨0, Nat.zero_le _, rfl, hR, hD, hb⟩
  case round =>
    clear hH hR hD hb
    obtain ⟨k, hk, rfl, hR, hD, hb⟩ := hrel
    by_cases hlt : k < 8
    · have i0 := IX.out k hlt
      have c0 := hD.val (i := 4 * k) (by rw [fill_len]; omega)
      have c1 := hD.val (i := 4 * k + 1) (by rw [fill_len]; omega)
      have c2 := hD.val (i := 4 * k + 2) (by rw [fill_len]; omega)
      have c3 := hD.val (i := 4 * k + 3) (by rw [fill_len]; omega)
      have z0 := hD.frozen (4 * k)
      have z1 := hD.frozen (4 * k + 1)
      have z2 := hD.frozen (4 * k + 2)
      have z3 := hD.frozen (4 * k + 3)
      go_wp2
      go_roundw
      case rel =>
        have h4 := (((hD.set_ (4 * k) (.int .u8 (nth hs k / 16777216 % 256))).set_ (4 * k + 1) (.int .u8 (nth hs k / 65536 % 256))).set_ (4 * k + 2) (.int .u8 (nth hs k / 256 % 256))).set_ (4 * k + 3) (.int .u8 (nth hs k % 256))
        rw [vals_set, vals_set, vals_set, vals_set, fill_set (digF hs) (nth Z32) (by omega) (digF0 hs k), fill_set (digF hs) (nth Z32) (by omega) (digF1 hs k), fill_set (digF hs) (nth Z32) (by omega) (digF2 hs k), fill_set (digF hs) (nth Z32) (by omega) (digF3 hs k)] at h4
        refine ⟨k + 1, by omega, by go_num, (((hR.far ?_ _).far ?_ _).far ?_ _).far ?_ _, h4, ?_⟩
        · show w.heap.size + 1 ≠ w.heap.size + 1 + 1; omega
        · show w.heap.size + 1 ≠ w.heap.size + 1 + 1; omega
        · show w.heap.size + 1 ≠ w.heap.size + 1 + 1; omega
        · show w.heap.size + 1 ≠ w.heap.size + 1 + 1; omega
        · exact (((hb.setCell (by show w.heap.size ≤ w.heap.size + 1 + 1; omega) _).setCell (by show w.heap.size ≤ w.heap.size + 1 + 1; omega) _).setCell (by show w.heap.size ≤ w.heap.size + 1 + 1; omega) _).setCell (by show w.heap.size ≤ w.heap.size + 1 + 1; omega) _
      case measure => simp [intOf]; omega
    · have ek : k = 8 := by omega
      subst ek
      clear hlt hk
      have SZ : Keep ((vals .u8 (digL hs)).size = 32) := ⟨by rw [vals_size, digL, fill_len]⟩
      obtain ⟨os, hos⟩ : ∃ os, digL hs = os := ⟨_, rfl⟩
      have hD' : Has wr (w.heap.size + 1 + 1) 29 (vals .u8 (digL hs)) := hD
      rw [hos] at hD' SZ
      have HO : Keep _ := ⟨hos⟩
      clear hos hD
      go_wp2_with (first
        | (refine wpList_load_row rfl 29 (.tmp 3) rfl (w.heap.size + 1 + 1) rfl _ _ _ _ hD'.eq Try.underlying29 rfl (by rw [SZ.out]; kernel_rfl) ?_)
        | (refine wpList_store_rowTo (by rfl) 29 (.tmp 2) (.tmp 38) (by rfl) (by rfl) (w.heap.size + 1) (vals .u8 os) (by rfl) (by rfl) _ _ hR.eq (by rw [SZ.out]; kernel_rfl) (by rw [SZ.out]; rfl) vals_one ?_))
      rw [HO.out]
      refine bodyPost_ret (v := .agg (vals .u8 os)) (results_cell_row rfl _ _ (w.heap.size + 1) _ _ _ _ rfl (hR.row _).eq Try.underlying29 rfl (by rw [SZ.out]; kernel_rfl)) rfl ⟨rfl, below_row hb (by omega) _⟩
end Go.Proofs.Ytkjbfkhiijnemaa.Sha
