/-
  Own text. The contracts of math/bits' Len64 and LeadingZeros64.
-/
import Derived.Test.YtpgphhinelljoaaDoorMReg
import Derived.Lib.Strings
import Derived.Lib.Slices
import Derived.Lib.Walk
import Derived.Lib.BitFns
namespace Go.Proofs.YtpgphhinelljoaaDoor.Bits
open Go Go.RowKit Go.Proofs.YtpgphhinelljoaaDoor.Reg Go.Proofs.YtpgphhinelljoaaDoor.Base

/-- How many bits a word has. -/
def blen (x : Int) : Nat := Lib.bitLen x.toNat
theorem table_len {b : Int} (h0 : 0 ≤ b) (h1 : b ≤ 255) (h : b.toNat < Lib.len8tab.size) : (Lib.len8tab[b.toNat].toNat : Int) = blen b := by
  have e := Lib.len8_of b h0 h1
  unfold Lib.len8 at e
  rw [getElem?_pos Lib.len8tab b.toNat h] at e
  simpa [blen] using e
theorem leaf_len {x b n : Int} (k : Nat) (hn : n = k) (hk : k ≤ 56) (h0 : 0 ≤ x) (h1 : x ≤ 18446744073709551615) (hl : 2 ^ k ≤ x.toNat) (hb : b.toNat = x.toNat / 2 ^ k) (b0 : 0 ≤ b) (b1 : b ≤ 255) (h : b.toNat < Lib.len8tab.size) : wrap64 (n + wrap64 (Lib.len8tab[b.toNat].toNat : Int)) = (blen x : Int) := by
  have e := Lib.bitLen_shift k x.toNat hl (by omega)
  have l := Lib.bitLen_le8' b b0 b1
  rw [table_len b0 b1, blen, blen, e, ← hb]
  unfold wrap64
  omega
theorem leaf_len0 {x b : Int} (h0 : 0 ≤ x) (hb : b = x) (b1 : b ≤ 255) (h : b.toNat < Lib.len8tab.size) : wrap64 (wrap64 (Lib.len8tab[b.toNat].toNat : Int)) = (blen x : Int) := by
  subst hb
  have l := Lib.bitLen_le8' b h0 b1
  rw [table_len h0 b1, blen]
  unfold wrap64
  omega

set_option maxRecDepth 100000 in
set_option maxHeartbeats 4000000 in
theorem len64_c (x : Int) (h0 : 0 ≤ x) (h1 : x ≤ 18446744073709551615) (w : World) :
    Calls Tryd.prog 89 #[.int .u64 x] w fun e w' => e = .returned (.int .i64 (blen x : Nat)) ∧ w = w' := by
  have hs := Lib.len8tab_size
  go_enter Tryd.func89, Tryd.ntmps89
  go_wp2
  all_goals first
    | (exfalso; omega)
    | (go_ret
       refine ⟨ret_eq (congrArg (Value.int IntKind.i64) ?_), rfl⟩
       first
         | exact leaf_len 56 (by rfl) (by omega) h0 h1 (by omega) (by omega) (by omega) (by omega) _
         | exact leaf_len 48 (by rfl) (by omega) h0 h1 (by omega) (by omega) (by omega) (by omega) _
         | exact leaf_len 40 (by rfl) (by omega) h0 h1 (by omega) (by omega) (by omega) (by omega) _
         | exact leaf_len 32 (by rfl) (by omega) h0 h1 (by omega) (by omega) (by omega) (by omega) _
         | exact leaf_len 24 (by rfl) (by omega) h0 h1 (by omega) (by omega) (by omega) (by omega) _
         | exact leaf_len 16 (by rfl) (by omega) h0 h1 (by omega) (by omega) (by omega) (by omega) _
         | exact leaf_len 8 (by rfl) (by omega) h0 h1 (by omega) (by omega) (by omega) (by omega) _
         | exact leaf_len0 h0 (by rfl) (by omega) _)

set_option maxRecDepth 100000 in
set_option maxHeartbeats 1000000 in
theorem lz64_c (x : Int) (h0 : 0 ≤ x) (h1 : x ≤ 18446744073709551615) (s : Nat) (hs : blen x + s = 64) (w : World) : Calls Tryd.prog 57 #[.int .u64 x] w fun e w' => e = .returned (.int .i64 (s : Nat)) ∧ w = w' := by
  have L := len64_c x h0 h1
  obtain ⟨n, hn⟩ : ∃ n, blen x = n := ⟨_, rfl⟩
  rw [hn] at L hs
  have hsi : (64 : Int) - n = s := by omega
  have L' : Keep _ := ⟨L⟩
  clear hn L
  go_enter Tryd.func57, Tryd.ntmps57
  go_wp2_with (go_at_call 89; refine (L'.out _).mono ?_; rintro e w' ⟨rfl, rfl⟩)
  go_ret
  exact ⟨rfl, rfl⟩
/-- What 'blen' is. -/
theorem blen_spec {x : Int} (h0 : 0 < x) (h1 : x ≤ 18446744073709551615) : ∃ s : Nat, blen x + s = 64 ∧ s ≤ 63 ∧ 9223372036854775808 ≤ x * 2 ^ s ∧ x * 2 ^ s < 18446744073709551616 := by
  obtain ⟨n, rfl⟩ := Int.eq_ofNat_of_zero_le (Int.le_of_lt h0)
  have key : ∀ (f m : Nat), 0 < m → m < 2 ^ f → 2 ^ (Lib.bitLenAux f m - 1) ≤ m ∧ m < 2 ^ Lib.bitLenAux f m ∧ 1 ≤ Lib.bitLenAux f m ∧ Lib.bitLenAux f m ≤ f := by
    intro f
    induction f with
    | zero => intro m h0 h1; simp at h1; omega
    | succ f ih =>
      intro m h0 h1
      rw [Lib.bitLenAux, if_neg (by omega)]
      rw [Nat.pow_succ] at h1
      rcases Nat.lt_or_ge m 2 with h | h
      · obtain rfl : m = 1 := by omega
        have hz : Lib.bitLenAux f (1 / 2) = 0 := by
          rcases f with _ | f
          · rfl
          · rw [Lib.bitLenAux]; simp
        rw [hz]; simp
      · obtain ⟨i1, i2, i3, i4⟩ := ih (m / 2) (by omega) (by omega)
        obtain ⟨L, hL⟩ : ∃ L, Lib.bitLenAux f (m / 2) = L + 1 := ⟨Lib.bitLenAux f (m / 2) - 1, by omega⟩
        rw [hL] at i1 i2 i4 ⊢
        rw [Nat.add_sub_cancel] at i1
        rw [show 1 + (L + 1) - 1 = L + 1 by omega, show 1 + (L + 1) = (L + 1) + 1 by omega, Nat.pow_succ 2 L, Nat.pow_succ 2 (L + 1)]
        omega
  have hk := key 64 n (by omega) (by omega)
  have hb : blen (n : Int) = Lib.bitLenAux 64 n := by simp [blen, Lib.bitLen]
  obtain ⟨L, hL⟩ : ∃ L, Lib.bitLenAux 64 n = L + 1 := ⟨Lib.bitLenAux 64 n - 1, by omega⟩
  rw [hL] at hk hb
  rw [Nat.add_sub_cancel] at hk
  refine ⟨63 - L, by omega, by omega, ?_, ?_⟩
  · have h2 : 2 ^ L * 2 ^ (63 - L) ≤ n * 2 ^ (63 - L) := Nat.mul_le_mul_right _ hk.1
    have e63 : (2 : Nat) ^ 63 = 9223372036854775808 := by decide
    rw [← Nat.pow_add, show L + (63 - L) = 63 by omega, e63] at h2
    have h3 : ((n * 2 ^ (63 - L) : Nat) : Int) = (n : Int) * 2 ^ (63 - L) := by rw [Int.natCast_mul, Int.natCast_pow]; rfl
    rw [← h3]
    omega
  · have h2 : n * 2 ^ (63 - L) < 2 ^ (L + 1) * 2 ^ (63 - L) := Nat.mul_lt_mul_of_pos_right hk.2.1 (Nat.two_pow_pos _)
    have e64 : (2 : Nat) ^ 64 = 18446744073709551616 := by decide
    rw [← Nat.pow_add, show L + 1 + (63 - L) = 64 by omega, e64] at h2
    have h3 : ((n * 2 ^ (63 - L) : Nat) : Int) = (n : Int) * 2 ^ (63 - L) := by rw [Int.natCast_mul, Int.natCast_pow]; rfl
    rw [← h3]
    omega
end Go.Proofs.YtpgphhinelljoaaDoor.Bits
