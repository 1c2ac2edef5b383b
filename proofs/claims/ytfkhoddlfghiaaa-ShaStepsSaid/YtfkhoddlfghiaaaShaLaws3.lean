/-
  Own text. The walk of the statement ShaPads.
-/
import Derived.Test.YtfkhoddlfghiaaaShaLaws2
namespace Go.Proofs.Ytfkhoddlfghiaaa.Sha
open Go Go.RowKit Go.Proofs.Ytfkhoddlfghiaaa.Reg

/-- The count's number after k of its bytes. -/
def bitsAt (n k : Nat) : Int := 8 * (n : Int) / 2 ^ (8 * (8 - k))
theorem bitsAt_zero (n : Nat) (hn : n ≤ 2000) : bitsAt n 0 = 0 := by
  unfold bitsAt
  exact Int.ediv_eq_zero_of_lt (by omega) (by show 8 * (n : Int) < 18446744073709551616; omega)
theorem bitsAt_all (n : Nat) : bitsAt n 8 = 8 * (n : Int) := by simp [bitsAt]
theorem bitsAt_le (n k : Nat) (hn : n ≤ 2000) : 0 ≤ bitsAt n k ∧ bitsAt n k ≤ 16000 := by
  unfold bitsAt
  have h1 := Int.ediv_nonneg (a := 8 * (n : Int)) (b := 2 ^ (8 * (8 - k))) (by omega) (Int.pow_nonneg (by omega))
  have h2 := Int.ediv_le_self (a := 8 * (n : Int)) (2 ^ (8 * (8 - k))) (by omega)
  omega
theorem bitsAt_succ (n k : Nat) (hk : k < 8) : bitsAt n k * 256 + 8 * (n : Int) / 2 ^ (8 * (7 - k)) % 256 = bitsAt n (k + 1) := by
  unfold bitsAt
  have e1 : 8 * (8 - (k + 1)) = 8 * (7 - k) := by omega
  have e2 : (2 : Int) ^ (8 * (8 - k)) = 2 ^ (8 * (7 - k)) * 256 := by
    rw [show 8 * (8 - k) = 8 * (7 - k) + 8 by omega, Int.pow_add]; rfl
  rw [e1, e2, ← Int.ediv_ediv_of_nonneg (Int.pow_nonneg (by omega))]
  generalize 8 * (n : Int) / 2 ^ (8 * (7 - k)) = y
  omega

theorem padL_mark (bs : List Int) : nth (padL bs) bs.length = 128 := by
  have := padLen_le bs.length
  rw [padL, tab_nth _ (by omega), padF, if_neg (by omega), if_pos rfl]
theorem padL_zero (bs : List Int) (j : Nat) (h1 : bs.length < j) (h2 : j + 8 < padLen bs.length) : nth (padL bs) j = 0 := by
  rw [padL, tab_nth _ (by omega), padF, if_neg (by omega), if_neg (by omega), if_neg (by omega)]
theorem padL_count (bs : List Int) (k : Nat) (hk : k < 8) : nth (padL bs) (padLen bs.length - 8 + k) = 8 * (bs.length : Int) / 2 ^ (8 * (7 - k)) % 256 := by
  have := padLen_le bs.length
  rw [padL, tab_nth _ (by omega), padF, if_neg (by omega), if_neg (by omega), if_pos (by omega), show padLen bs.length - 1 - (padLen bs.length - 8 + k) = 7 - k by omega]

set_option maxRecDepth 100000 in
set_option maxHeartbeats 2000000 in
theorem pads_big (A : Option Addr) (n c : Nat) (w : World) (hn : 2000 < n) : Calls Try.prog 5 #[.slice A n c] w fun e w' => e = .returned (.bool true) ∧ Below w.heap.size w w' := by
  go_enter Try.func5, Try.ntmps5
  go_wp2_with (go_at_call 8; refine (awake_c _).mono ?_; rintro e w1 ⟨rfl, hb1⟩)
  go_ret
  exact ⟨rfl, hb1⟩

set_option maxRecDepth 100000 in
set_option maxHeartbeats 2000000 in
theorem pads_small (A : Option Addr) (n c : Nat) (bs : List Int) (w : World) (hr : Rd w w.heap.size A n .u8 bs) (hn : ¬ 2000 < n) : Calls Try.prog 5 #[.slice A n c] w fun e w' => e = .returned (.bool true) ∧ Below w.heap.size w w' := by
  have hln := hr.len
  obtain ⟨p, hp⟩ : ∃ p, padL bs = p := ⟨_, rfl⟩
  have hpl := padLen_le n
  have hmul : padLen n % 64 = 0 := by unfold padLen; omega
  have hmark := padL_mark bs
  have hzero := padL_zero bs
  have hcnt := padL_count bs
  rw [hp, hln] at hmark hzero hcnt
  obtain ⟨L, hL⟩ : ∃ L, padLen n = L := ⟨_, rfl⟩
  have hpp : p.length = L := by rw [← hp, padL_len, hln, hL]
  have htk : bs = (p.drop 0).take n := by rw [← hp, ← hln]; exact padL_take bs
  rw [hL] at hpl hmul hzero hcnt
  have hm64 : (((L : Int)) % 64 != 0) = false := by rw [bne_eq_false_iff_eq]; omega
  have HP : Keep _ := ⟨hp⟩
  have HL : Keep _ := ⟨hL⟩
  have PP : Keep _ := ⟨hpp⟩
  have TK : Keep _ := ⟨htk⟩
  have MK : Keep _ := ⟨hmark⟩
  have ZR : Keep _ := ⟨hzero⟩
  have CN : Keep _ := ⟨hcnt⟩
  obtain ⟨hpl1, hpl2⟩ := hpl
  have hlt1 : ¬ L < n + 9 := by omega
  have hlt2 : ¬ n + 9 + 64 ≤ L := by omega
  have hn2 : n ≤ 2000 := by omega
  clear hp hL hpp htk hmark hzero hcnt hmul hln
  go_enter Try.func5, Try.ntmps5
  go_wp2_with (first
    | (go_at_call 8
       refine (awake_c _).mono ?_
       rintro e w1 ⟨rfl, hb1⟩
       have hr1 := hr.keep hb1 (Nat.le_refl _))
    | (go_at_call 10
       refine (pad_c A n c bs w.heap.size w1 hr1 hb1.size (by omega)).mono ?_
       rintro e w3 ⟨rfl, hP3, hb3⟩
       rw [HP.out] at hP3
       rw [HL.out]
       have hr3 := hr1.keep hb3 hb1.size
       have hbb3 := hb1.trans (hb3.mono hb1.size)
       clear hr1 hb3)
    | (go_at_call 9
       refine (same_c (some ⟨w1.heap.size, 0, none⟩) A n _ n c bs bs w3.heap.size w.heap.size w3 (Rd.of_has hP3 hP3.lt TK.out (by rw [PP.out]; omega)) (Nat.le_refl _) hr3 hbb3.size (by omega) (by omega)).mono ?_
       rintro e w4 ⟨rfl, hb4⟩
       rw [decide_eq_true (rfl : bs = bs)]
       have hP4 := hP3.keep hb4
       have hbb4 := hbb3.trans (hb4.mono hbb3.size)
       have cn : w4.cell? ⟨w1.heap.size, n, none⟩ = some (.int .u8 128) := by
         have := hP4.val (i := n) (by rw [PP.out]; omega)
         rwa [MK.out] at this
       clear hr3 hb4 hP3 hbb3))
  clear cn
  go_loop [7] (fun i => ∃ k : Nat, n + 1 ≤ k ∧ k + 8 ≤ L ∧ i = .int .i64 k) (fun i => L - (intOf i).toNat)
  case atStart => exact ⟨n + 1, Nat.le_refl _, by omega, rfl⟩
  case round =>
    obtain ⟨k, hk1, hk2, rfl⟩ := hrel
    by_cases hlt : k + 8 < L
    · have ck : w4.cell? ⟨w1.heap.size, k, none⟩ = some (.int .u8 0) := by
        have := hP4.val (i := k) (by rw [PP.out]; omega)
        rwa [ZR.out k (by omega) hlt] at this
      go_wp2
      go_round
      case rel => exact ⟨k + 1, by omega, by omega, by go_num⟩
      case measure => simp [intOf]; omega
    · obtain rfl : k = L - 8 := by omega
      have e8 : ((L - 8 : Nat) : Int) = (L : Int) - 8 := by omega
      rw [e8]
      clear e8
      have b0 := bitsAt_zero n hn2
      go_wp2
      go_loop [8, 9] (fun b i => ∃ k : Nat, k ≤ 8 ∧ i = .int .i64 ((L : Int) - 8 + k) ∧ b = .int .i64 (bitsAt n k)) (fun _ i => L - (intOf i).toNat)
      case atStart => exact ⟨0, Nat.zero_le _, by simp, by rw [b0]⟩
      case round =>
        clear b0
        obtain ⟨k, hk8, rfl, rfl⟩ := hrel
        by_cases hlt8 : k < 8
        · have ck := hP4.val (i := L - 8 + k) (by rw [PP.out]; omega)
          rw [CN.out k hlt8] at ck
          have hs := bitsAt_succ n k hlt8
          have hb1 := (bitsAt_le n k hn2).1
          have hb2 := (bitsAt_le n k hn2).2
          have hy1 := Int.emod_nonneg (8 * (n : Int) / 2 ^ (8 * (7 - k))) (b := 256) (by omega)
          have hy2 := Int.emod_lt_of_pos (8 * (n : Int) / 2 ^ (8 * (7 - k))) (b := 256) (by omega)
          obtain ⟨y, hy⟩ : ∃ y, 8 * (n : Int) / 2 ^ (8 * (7 - k)) % 256 = y := ⟨_, rfl⟩
          rw [hy] at ck hs hy1 hy2
          obtain ⟨bt, hbt⟩ : ∃ b, bitsAt n k = b := ⟨_, rfl⟩
          rw [hbt] at hs hb1 hb2
          rw [hbt]
          have HS : Keep _ := ⟨hs⟩
          clear hy hs hbt
          go_wp2
          go_round
          case rel => exact ⟨k + 1, by omega, congrArg (Value.int .i64) (by omega), by rw [HS.out]⟩
          case measure => simp [intOf]; omega
        · obtain rfl : k = 8 := by omega
          rw [show (L : Int) - 8 + ((8 : Nat) : Int) = (L : Int) by omega, bitsAt_all]
          go_wp2
          go_ret
          exact ⟨rfl, hbb4⟩

theorem pads_w {w : World} {a : Option Addr} {len : Nat} (cap : Nat) {bs : List Int} (h : Rd w w.heap.size a len .u8 bs ∧ Bytes bs) : Calls Try.prog 5 #[.slice a len cap] w fun e w' => e = .returned (.bool true) ∧ Below w.heap.size w w' := by
  by_cases hn : 2000 < len
  · exact pads_big a len cap w hn
  · exact pads_small a len cap bs w h.1 hn
end Go.Proofs.Ytfkhoddlfghiaaa.Sha
