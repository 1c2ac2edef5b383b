/-
  Own text. The walk of the statement ShaFolds.
-/
import Derived.Test.YtfkhoddlfghiaaaShaLaws3
namespace Go.Proofs.Ytfkhoddlfghiaaa.Sha
open Go Go.RowKit Go.Proofs.Ytfkhoddlfghiaaa.Reg

theorem digFn (h : List Int) (i k : Nat) (hk : k < 4) : nth h i / 2 ^ (24 - 8 * k) % 256 = digF h (4 * i + k) := by
  rw [digF, show (4 * i + k) / 4 = i by omega, show (4 * i + k) % 4 = k by omega]

set_option maxRecDepth 100000 in
set_option maxHeartbeats 2000000 in
theorem folds_big (A : Option Addr) (n c : Nat) (w : World) (hn : 2000 < n) : Calls Try.prog 6 #[.slice A n c] w fun e w' => e = .returned (.bool true) ∧ Below w.heap.size w w' := by
  go_enter Try.func6, Try.ntmps6
  go_wp2_with (go_at_call 8; refine (awake_c _).mono ?_; rintro e w1 ⟨rfl, hb1⟩)
  go_ret
  exact ⟨rfl, hb1⟩

set_option maxRecDepth 100000 in
set_option maxHeartbeats 4000000 in
theorem folds_small (A : Option Addr) (n c : Nat) (bs : List Int) (w : World) (hr : Rd w w.heap.size A n .u8 bs) (hby : Bytes bs) (hn : ¬ 2000 < n) : Calls Try.prog 6 #[.slice A n c] w fun e w' => e = .returned (.bool true) ∧ Below w.heap.size w w' := by
  have LN : Keep _ := ⟨hr.len⟩
  obtain ⟨p, hp⟩ : ∃ p, padL bs = p := ⟨_, rfl⟩
  obtain ⟨M, hM⟩ : ∃ M, padLen n = 64 * M := ⟨(n + 72) / 64, by unfold padLen; omega⟩
  have hpl : p.length = 64 * M := by rw [← hp, padL_len, hr.len, hM]
  have hpb : Bytes p := hp ▸ padL_bytes bs hby
  have hMb : M ≤ 20000 := by have := padLen_le n; omega
  have hM1 : 1 ≤ M := by have := padLen_le n; omega
  have HP : Keep _ := ⟨hp⟩
  have HM : Keep _ := ⟨hM⟩
  have PL : Keep _ := ⟨hpl⟩
  have PB : Keep _ := ⟨hpb⟩
  have BY : Keep _ := ⟨hby⟩
  have hn2 : n ≤ 2000 := by omega
  clear hp hM hpl hpb hby
  go_enter Try.func6, Try.ntmps6
  go_wp2_with (first
    | (go_at_call 8
       refine (awake_c _).mono ?_
       rintro e w0 ⟨rfl, hb0⟩
       have hr0 := hr.keep hb0 (Nat.le_refl _))
    | (go_at_call 10
       refine (pad_c A n c bs w.heap.size w0 hr0 hb0.size (by omega)).mono ?_
       rintro e w3 ⟨rfl, hP3, hb3⟩
       rw [HP.out] at hP3
       rw [HM.out]
       have hr3 := hr0.keep hb3 hb0.size
       have hbb3 := hb0.trans (hb3.mono hb0.size)
       have hsz := hb0.size
       clear hr0 hb3 hb0)
    | (go_at_call 16
       refine (begin_c _).mono ?_
       rintro e w1 ⟨rfl, hb1⟩
       have hP1 := hP3.keep hb1
       have hr1 := hr3.keep hb1 hbb3.size
       have hbb1 := hbb3.trans (hb1.mono hbb3.size)
       clear hP3 hr3 hbb3 hb1)
    | (refine store_abs2 (by rfl) 31 (.tmp 5) (.tmp 19) (by rfl) (by rfl) w1.heap.size (vals .u32 H0) (by rfl) (by rfl) 31 (vals .u32 Z8) (Has.new' _ rfl _ _) (by kernel_rfl) (by rfl) vals_one ?_
       intro w2 hS2 hkeep hbg
       have hP2 := hkeep _ _ _ (hP1.alloc _) (by have := hP1.lt; omega)
       have hbe := ((Below.refl w1.heap.size w1).alloc (Nat.le_refl _) (.cells (vals .u32 Z8) 31)).trans hbg
       have hr2 := hr1.keep hbe hbb1.size
       have hb2 := hbb1.trans (hbe.mono hbb1.size)
       have hg1 : w0.heap.size < w1.heap.size := hP1.lt
       clear hkeep hbg hbe hP1 hr1 hbb1))
  go_loopw [6] (fun i wr => ∃ j : Nat, j ≤ M ∧ i = .int .i64 ((64 * j : Nat) : Int) ∧ Has wr w0.heap.size 5 (vals .u8 p) ∧ Has wr w1.heap.size 31 (vals .u32 (foldS p j)) ∧ Rd wr w.heap.size A n .u8 bs ∧ Below w.heap.size w wr) (fun i _ => 64 * M - (intOf i).toNat)
  case atStart => exact ⟨0, Nat.zero_le _, rfl, hP2, hS2, hr2, hb2⟩
  case round =>
    clear hP2 hS2 hr2 hb2
    obtain ⟨j, hj, rfl, hP, hS, hr5, hb⟩ := hrel
    by_cases hlt : j < M
    · have hj1 : 64 * j + 64 ≤ 64 * M := by omega
      have SB : Keep _ := ⟨step_c (foldS p j) (block p j) (foldS_len p j) (block_len p j (by rw [PL.out]; exact hj1)) (block_bytes p PB.out j (by rw [PL.out]; exact hj1))⟩
      obtain ⟨fs, hfs⟩ : ∃ fs, foldS p j = fs := ⟨_, rfl⟩
      obtain ⟨bl, hbl⟩ : ∃ bl, block p j = bl := ⟨_, rfl⟩
      have hfl : fs.length = 8 := by rw [← hfs]; exact foldS_len p j
      have hbll : bl.length = 64 := by rw [← hbl]; exact block_len p j (by rw [PL.out]; exact hj1)
      have hbe : tab 64 (blkF p j 64) = bl := by rw [← hbl]; exact blk_all p j (by rw [PL.out]; exact hj1)
      have hnx : foldS p (j + 1) = stepL fs bl := by rw [← hfs, ← hbl]; rfl
      rw [hfs] at SB hS
      rw [hbl] at SB
      obtain ⟨ns, hns⟩ : ∃ ns, stepL fs bl = ns := ⟨_, rfl⟩
      have hnl : ns.length = 8 := by rw [← hns]; exact stepL_len _ _
      rw [hns] at SB hnx
      have FL : Keep _ := ⟨hfl⟩
      have BL : Keep _ := ⟨hbll⟩
      have BE : Keep _ := ⟨hbe⟩
      have NX : Keep _ := ⟨hnx⟩
      have NL : Keep _ := ⟨hnl⟩
      clear hfs hbl hfl hbe hnx hns hnl hbll
      generalize wr = w5 at *
      have hK0 : Has (w5.alloc (.cells (vals .u8 Z64b) 32)) w5.heap.size 32 (vals .u8 (tab 64 (blkF p j 0))) := by rw [blk_zero]; exact Has.new _ _ _
      have hbk0 : Below w5.heap.size w5 (w5.alloc (.cells (vals .u8 Z64b) 32)) := (Below.refl _ _).alloc (Nat.le_refl _) _
      have hg5 : w1.heap.size < w5.heap.size := hS.lt
      go_wp2
      go_loopw [8] (fun i w2 => ∃ k : Nat, k ≤ 64 ∧ i = .int .i64 k ∧ Has w2 w5.heap.size 32 (vals .u8 (tab 64 (blkF p j k))) ∧ Below w5.heap.size w5 w2) (fun i _ => 64 - (intOf i).toNat)
      case atStart => exact ⟨0, Nat.zero_le _, rfl, hK0, hbk0⟩
      case round =>
        clear hK0 hbk0
        obtain ⟨k, hk, rfl, hK, hbk⟩ := hrel
        by_cases hlk : k < 64
        · have cp := (hP.keep hbk).val (i := 64 * j + k) (by rw [PL.out]; omega)
          have ck := hK.val (i := k) (by rw [tab_len]; exact hlk)
          have zk := hK.frozen k
          go_wp2
          go_roundw
          case rel =>
            refine ⟨k + 1, by omega, by go_num, ?_, hbk.setCell (Nat.le_refl _) _⟩
            have := hK.set_ k (.int .u8 (nth p (64 * j + k)))
            rwa [vals_set, blk_set p j k hlk] at this
          case measure => simp [intOf]; omega
        · have ek : k = 64 := by omega
          subst ek
          rw [BE.out] at hK
          have hS6 := hS.keep hbk
          have hP6 := hP.keep hbk
          have hr6 := hr5.keep hbk hb.size
          have hbb6 := hb.trans (hbk.mono hb.size)
          clear hS hP hr5 hb hbk hlk hk
          go_wp2_with (first
            | (refine wpList_load_row rfl 31 (.tmp 5) rfl w1.heap.size rfl _ _ _ _ hS6.eq Try.underlying31 rfl (by rw [vals_size, FL.out]; kernel_rfl) ?_)
            | (refine wpList_load_row rfl 32 (.tmp 7) rfl w5.heap.size rfl _ _ _ _ hK.eq Try.underlying32 rfl (by rw [vals_size, BL.out]; kernel_rfl) ?_)
            | (go_at_call 14
               refine (SB.out _).mono ?_
               rintro e w8 ⟨rfl, hb8⟩
               have hS8 := hS6.keep hb8
               have hP8 := hP6.keep hb8
               have hr8 := hr6.keep hb8 hbb6.size
               have hbb8 := hbb6.trans (hb8.mono hbb6.size)
               clear hS6 hP6 hr6 hbb6 hb8 hK)
            | (refine store_abs2 (by rfl) 31 (.tmp 5) (.tmp 41) (by rfl) (by rfl) w1.heap.size (vals .u32 ns) (by rfl) (by rfl) 31 _ hS8 (by rw [vals_size, NL.out]; kernel_rfl) (by rw [vals_size, vals_size, NL.out, FL.out]) vals_one ?_
               intro w7 hS7 hkeep hbg
               have hP7 := hkeep _ _ _ hP8 (by omega)
               have hr7 := hr8.keep hbg (by omega)
               have hb7 := hbb8.trans (hbg.mono (by omega))
               clear hkeep hS8 hP8 hr8 hbb8 hbg))
          go_roundw
          case rel => exact ⟨j + 1, by omega, by go_num, hP7, by rw [NX.out]; exact hS7, hr7, hb7⟩
          case measure => simp [intOf]; omega
    · have ej : j = M := by omega
      subst ej
      have hfl := foldS_len p j
      have fin : sumL bs = digL (foldS p j) := by
        rw [sumL, HP.out, LN.out, HM.out, Nat.mul_div_cancel_left _ (by omega)]
      obtain ⟨fs, hfs⟩ : ∃ fs, foldS p j = fs := ⟨_, rfl⟩
      rw [hfs] at hS hfl fin
      have FL : Keep _ := ⟨hfl⟩
      have FIN : Keep _ := ⟨fin⟩
      clear hfs hfl fin hlt hj hP
      generalize wr = w5 at *
      have hO0 : Has (w5.alloc (.cells (vals .u8 Z32) 27)) w5.heap.size 27 (vals .u8 (fill 32 (digF fs) (nth Z32) 0)) := by
        rw [fill_zero 32 _ Z32 rfl]
        exact Has.new _ _ _
      have hbo0 : Below w5.heap.size w5 (w5.alloc (.cells (vals .u8 Z32) 27)) := (Below.refl _ _).alloc (Nat.le_refl _) _
      have hg5 : w1.heap.size < w5.heap.size := hS.lt
      go_wp2
      go_loopw [10, 11] (fun i _ w2 => ∃ k : Nat, k ≤ 8 ∧ i = .int .i64 k ∧ Has w2 w5.heap.size 27 (vals .u8 (fill 32 (digF fs) (nth Z32) (4 * k))) ∧ Below w5.heap.size w5 w2) (fun i _ _ => 8 - (intOf i).toNat)
      case atStart => exact ⟨0, Nat.zero_le _, rfl, hO0, hbo0⟩
      case round =>
        clear hO0 hbo0
        obtain ⟨k, hk, rfl, hO, hbo⟩ := hrel
        by_cases hlk : k < 8
        · go_wp2
          go_loopw [11] (fun i w2 => ∃ m : Nat, m ≤ 4 ∧ i = .int .i64 m ∧ Has w2 w5.heap.size 27 (vals .u8 (fill 32 (digF fs) (nth Z32) (4 * k + m))) ∧ Below w5.heap.size w5 w2) (fun i _ => 4 - (intOf i).toNat)
          case atStart => exact ⟨0, Nat.zero_le _, rfl, hO, hbo⟩
          case round =>
            clear hO hbo
            obtain ⟨m, hm, rfl, hO, hbo⟩ := hrel
            by_cases hlm : m < 4
            · have cs := (hS.keep hbo).val (i := k) (by rw [FL.out]; exact hlk)
              have co := hO.val (i := 4 * k + m) (by rw [fill_len]; omega)
              have zo := hO.frozen (4 * k + m)
              go_wp2
              go_roundw
              case rel =>
                refine ⟨m + 1, by omega, by go_num, ?_, hbo.setCell (Nat.le_refl _) _⟩
                have := hO.set_ (4 * k + m) (.int .u8 (nth fs k / 2 ^ (24 - 8 * m) % 256))
                rwa [vals_set, fill_set (digF fs) (nth Z32) (by omega) (digFn fs k m hlm)] at this
              case measure => simp [intOf]; omega
            · have em : m = 4 := by omega
              subst em
              go_wp2
              go_roundw
              case rel => exact ⟨k + 1, by omega, by go_num, hO, hbo⟩
              case measure => simp [intOf]; omega
        · have ek : k = 8 := by omega
          subst ek
          have hO' : Has wr w5.heap.size 27 (vals .u8 (digL fs)) := hO
          have hr6 := hr5.keep hbo hb.size
          have hb6 := hb.trans (hbo.mono hb.size)
          have hol : (digL fs).length = 32 := fill_len _ _ _ _
          have SC : ∀ (w' : World), Rd w' w.heap.size A n .u8 bs → w.heap.size ≤ w'.heap.size → Calls Try.prog 12 #[.slice A n c] w' fun e w'' => e = .returned (.agg (vals .u8 (digL fs))) ∧ Below w'.heap.size w' w'' := fun w' h1 h2 => by
            rw [← FIN.out]
            exact sum_c A n c bs w.heap.size w' h1 BY.out h2 (by omega)
          obtain ⟨os, hos⟩ : ∃ os, digL fs = os := ⟨_, rfl⟩
          rw [hos] at hO' hol SC
          have OL : Keep _ := ⟨hol⟩
          have SCK : Keep _ := ⟨SC⟩
          have heq : ∀ w : World, (Op.equalIn 10000 27 (.agg (vals .u8 os)) (.agg (vals .u8 os))).run Try.prog w = .ok true w := fun w => by
            rw [equalIn_vals (d := 9998) Try.underlying27 Try.underlying5 (by kernel_rfl) (by kernel_rfl) OL.out OL.out]
            simp
          have hgd : Try.prog.eqGuardType Try.prog.depth 27 = false := by kernel_rfl
          clear hos hol SC hO hbo hr5 hb hS hk hlk FIN
          go_wp2
          refine wp_fam_all (by kernel_rfl) (by kernel_rfl) (fun I hI' fw hf hback => ?_)
          repeat (first
            | (go_big_quiet_want
               refine quiet_load_seg 27 (.tmp 9) (by rfl) w5.heap.size 0 32 (by rfl) 27 .u8 os os _ (fun w' ⟨i, hi⟩ => by rw [hi]; exact hO'.keep (hf i)) Try.underlying27 rfl (by kernel_rfl) (by rw [List.drop_zero, List.take_of_length_le (by rw [OL.out]; omega)]) (by rw [OL.out]; omega) ?_
               simp only [Act.put, List.setIfInBounds_toArray, List.set_cons_zero, List.set_cons_succ]
               go_big_quiet_on)
            | go_big_quiet_step ((go_at_call 12; exact calls_fam hf hback (SCK.out _ (hr6.keep (hf _) hb6.size) (Nat.le_trans hb6.size (hf _).size)))))
          refine wpQuiet_nil ?_
          intro w9 hb9
          clear hf hback
          go_wp2
          go_ret
          exact ⟨rfl, hb6.trans (hb9.mono hb6.size)⟩

theorem folds_w {w : World} {a : Option Addr} {len : Nat} (cap : Nat) {bs : List Int} (h : Rd w w.heap.size a len .u8 bs ∧ Bytes bs) : Calls Try.prog 6 #[.slice a len cap] w fun e w' => e = .returned (.bool true) ∧ Below w.heap.size w w' := by
  by_cases hn : 2000 < len
  · exact folds_big a len cap w hn
  · exact folds_small a len cap bs w h.1 h.2 hn
end Go.Proofs.Ytfkhoddlfghiaaa.Sha
