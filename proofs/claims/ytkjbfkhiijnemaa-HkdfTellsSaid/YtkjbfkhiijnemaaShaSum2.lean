/-
  Own text. The contracts of the reference's Sum and Same.
-/
import Derived.Test.YtkjbfkhiijnemaaShaSum
namespace Go.Proofs.Ytkjbfkhiijnemaa.Sha
open Go Go.RowKit Go.Proofs.Ytkjbfkhiijnemaa.Reg

def blkF (p : List Int) (j k i : Nat) : Int := if i < k then nth p (64 * j + i) else 0
def Z64b : List Int := List.replicate 64 0
theorem blk_zero (p : List Int) (j : Nat) : tab 64 (blkF p j 0) = Z64b := (tab_eq (n := 64) (l := Z64b) rfl fun i _ => by
  simp only [blkF, Nat.not_lt_zero, if_false, nth, Z64b, List.getD_eq_getElem?_getD, List.getElem?_replicate]
  split <;> rfl).symm
theorem blk_all (p : List Int) (j : Nat) (h : 64 * j + 64 ≤ p.length) : tab 64 (blkF p j 64) = block p j :=
  (tab_eq (block_len p j h) fun i hi => by rw [block_nth p j i hi, blkF, if_pos hi]).symm
theorem blk_set (p : List Int) (j k : Nat) (hk : k < 64) : (tab 64 (blkF p j k)).set k (nth p (64 * j + k)) = tab 64 (blkF p j (k + 1)) :=
  tab_set _ _ hk (by simp [blkF]) fun i _ hne => by
    unfold blkF
    by_cases h : i < k
    · rw [if_pos h, if_pos (by omega)]
    · rw [if_neg h, if_neg (by omega)]

set_option maxRecDepth 100000 in
set_option maxHeartbeats 2000000 in
theorem refSum_c (A : Option Addr) (n c : Nat) (bs : List Int) (B : Nat) (w : World) (hr : Rd w B A n .u8 bs) (hby : Bytes bs) (hB : B ≤ w.heap.size) (hn : n ≤ 1000000) :
    Calls Try.prog 20 #[.slice A n c] w fun e w' => e = .returned (.agg (vals .u8 (sumL bs))) ∧ Below w.heap.size w w' := by
  have LN : Keep _ := ⟨hr.len⟩
  obtain ⟨p, hp⟩ : ∃ p, padL bs = p := ⟨_, rfl⟩
  obtain ⟨M, hM⟩ : ∃ M, padLen n = 64 * M := ⟨(n + 72) / 64, by unfold padLen; omega⟩
  have hpl : p.length = 64 * M := by rw [← hp, padL_len, hr.len, hM]
  have hpb : Bytes p := hp ▸ padL_bytes bs hby
  have hMb : M ≤ 20000 := by have := padLen_le n; omega
  have hM1 : 1 ≤ M := by have := padLen_le n; omega
  have HP : Keep _ := ⟨hp⟩
  have HM : Keep _ := ⟨hM⟩
  have PL : Keep _ := ⟨hpl⟩
  have PB : Keep _ := ⟨hpb⟩
  have hR0 : Has (w.alloc (.cells (vals .u8 Z32) 29)) w.heap.size 29 (vals .u8 Z32) := Has.new _ _ _
  have hb0 : Below w.heap.size w (w.alloc (.cells (vals .u8 Z32) 29)) := (Below.refl _ _).alloc (Nat.le_refl _) _
  have hr0 := hr.keep hb0 hB
  have hB0 := Nat.le_trans hB hb0.size
  clear hp hM hpl hpb hby
  go_enter Try.func20, Try.ntmps20
  go_wp2_with fail
  refine (refPad_c A n c bs B _ hr0 hB0 hn).mono ?_
  rintro e w3 ⟨A3, c3, rfl, ho3, hb3⟩
  rw [HP.out, HM.out] at ho3
  rw [HM.out]
  have hR3 := hR0.keep hb3
  have hbb3 := hb0.trans (hb3.mono hb0.size)
  obtain ⟨gp, rfl, hgp1, hgp2, _, _, _⟩ := ho3.at_ (by omega)
  have hr3 := ho3.rd
  simp only [World.size_alloc] at hgp1
  clear hR0 hb0 hb3 hr0 hB0 ho3
  go_wp2_with (first
    | (go_at_call 29
       refine (refBegin_c _).mono ?_
       rintro e w1 ⟨rfl, hb1⟩
       have hR1 := hR3.keep hb1
       have hr1 := (hr3.keep hb1 (Nat.le_refl _)).more hb1.size
       have hbb1 := hbb3.trans (hb1.mono hbb3.size)
       clear hR3 hr3 hbb3 hb1 hgp2)
    | (refine store_abs2 (by rfl) 40 (.tmp 4) (.tmp 12) (by rfl) (by rfl) w1.heap.size (vals .u32 H0) (by rfl) (by rfl) 40 (vals .u32 Z8) (Has.new' _ rfl _ _) (by kernel_rfl) (by rfl) vals_one ?_
       intro w2 hS2 hkeep hbg
       have hR2 := hkeep _ _ _ (hR1.alloc _) (by have := hR1.lt; omega)
       have hbe := ((Below.refl w1.heap.size w1).alloc (Nat.le_refl _) (.cells (vals .u32 Z8) 40)).trans hbg
       have hr2 := hr1.keep hbe (Nat.le_refl _)
       have hb2 := hbb1.trans (hbe.mono hbb1.size)
       have hg1 : w.heap.size < w1.heap.size := hR1.lt
       clear hkeep hbg hbe hR1 hr1 hbb1))
  go_loopw [5] (fun i wr => ∃ j : Nat, j ≤ M ∧ i = .int .i64 ((64 * j : Nat) : Int) ∧ Has wr w.heap.size 29 (vals .u8 Z32) ∧ Has wr w1.heap.size 40 (vals .u32 (foldS p j)) ∧ Rd wr w1.heap.size (some ⟨gp, 0, none⟩) (64 * M) .u8 p ∧ Below w.heap.size w wr) (fun i _ => 64 * M - (intOf i).toNat)
  case atStart => exact ⟨0, Nat.zero_le _, rfl, hR2, hS2, hr2, hb2⟩
  case round =>
    clear hR2 hS2 hr2 hb2
    obtain ⟨j, hj, rfl, hR, hS, hr5, hb⟩ := hrel
    by_cases hlt : j < M
    · have hj1 : 64 * j + 64 ≤ 64 * M := by omega
      have SB : Keep _ := ⟨refStep_c (foldS p j) (block p j) (foldS_len p j) (block_len p j (by rw [PL.out]; exact hj1)) (block_bytes p PB.out j (by rw [PL.out]; exact hj1))⟩
      obtain ⟨fs, hfs⟩ : ∃ fs, foldS p j = fs := ⟨_, rfl⟩
      obtain ⟨bl, hbl⟩ : ∃ bl, block p j = bl := ⟨_, rfl⟩
      have hfl : fs.length = 8 := by rw [← hfs]; exact foldS_len p j
      have hbll : bl.length = 64 := by rw [← hbl]; exact block_len p j (by rw [PL.out]; exact hj1)
      have hbe : tab 64 (blkF p j 64) = bl := by rw [← hbl]; exact blk_all p j (by rw [PL.out]; exact hj1)
      have hnx : foldS p (j + 1) = stepL fs bl := by rw [← hfs, ← hbl]; rfl
      rw [hfs] at SB hS
      rw [hbl] at SB
      obtain ⟨ns, hns⟩ : ∃ ns, stepL fs bl = ns := ⟨_, rfl⟩
      have hnl : ns.length = 8 := by rw [← hns]; exact stepL_len _ _
      rw [hns] at SB hnx
      have FL : Keep _ := ⟨hfl⟩
      have BL : Keep _ := ⟨hbll⟩
      have BE : Keep _ := ⟨hbe⟩
      have NX : Keep _ := ⟨hnx⟩
      have NL : Keep _ := ⟨hnl⟩
      clear hfs hbl hfl hbe hnx hns hnl hbll
      generalize wr = w5 at *
      have hK0 : Has (w5.alloc (.cells (vals .u8 Z64b) 34)) w5.heap.size 34 (vals .u8 (tab 64 (blkF p j 0))) := by rw [blk_zero]; exact Has.new _ _ _
      have hbk0 : Below w5.heap.size w5 (w5.alloc (.cells (vals .u8 Z64b) 34)) := (Below.refl _ _).alloc (Nat.le_refl _) _
      have hg5 : w1.heap.size < w5.heap.size := hS.lt
      go_wp2
      go_loopw [7] (fun i w2 => ∃ k : Nat, k ≤ 64 ∧ i = .int .i64 k ∧ Has w2 w5.heap.size 34 (vals .u8 (tab 64 (blkF p j k))) ∧ Below w5.heap.size w5 w2) (fun i _ => 64 - (intOf i).toNat)
      case atStart => exact ⟨0, Nat.zero_le _, rfl, hK0, hbk0⟩
      case round =>
        clear hK0 hbk0
        obtain ⟨k, hk, rfl, hK, hbk⟩ := hrel
        by_cases hlk : k < 64
        · have cp := (hr5.keep hbk (by omega)).get0 (j := 64 * j + k) (by omega)
          have ck := hK.val (i := k) (by rw [tab_len]; exact hlk)
          have zk := hK.frozen k
          go_wp2
          go_roundw
          case rel =>
            refine ⟨k + 1, by omega, by go_num, ?_, hbk.setCell (Nat.le_refl _) _⟩
            have := hK.set_ k (.int .u8 (nth p (64 * j + k)))
            rwa [vals_set, blk_set p j k hlk] at this
          case measure => simp [intOf]; omega
        · have ek : k = 64 := by omega
          subst ek
          rw [BE.out] at hK
          have hS6 := hS.keep hbk
          have hR6 := hR.keep hbk
          have hr6 := hr5.keep hbk (by omega)
          have hbb6 := hb.trans (hbk.mono hb.size)
          clear hS hR hr5 hb hbk hlk hk
          go_wp2_with (first
            | (refine wpList_load_row rfl 40 (.tmp 4) rfl w1.heap.size rfl _ _ _ _ hS6.eq Try.underlying40 rfl (by rw [vals_size, FL.out]; kernel_rfl) ?_)
            | (refine wpList_load_row rfl 34 (.tmp 6) rfl w5.heap.size rfl _ _ _ _ hK.eq Try.underlying34 rfl (by rw [vals_size, BL.out]; kernel_rfl) ?_)
            | (go_at_call 30
               refine (SB.out _).mono ?_
               rintro e w8 ⟨rfl, hb8⟩
               have hS8 := hS6.keep hb8
               have hR8 := hR6.keep hb8
               have hr8 := hr6.keep hb8 (Nat.le_of_lt hS6.lt)
               have hbb8 := hbb6.trans (hb8.mono hbb6.size)
               clear hS6 hR6 hr6 hbb6 hb8 hK)
            | (refine store_abs2 (by rfl) 40 (.tmp 4) (.tmp 34) (by rfl) (by rfl) w1.heap.size (vals .u32 ns) (by rfl) (by rfl) 40 _ hS8 (by rw [vals_size, NL.out]; kernel_rfl) (by rw [vals_size, vals_size, NL.out, FL.out]) vals_one ?_
               intro w7 hS7 hkeep hbg
               have hR7 := hkeep _ _ _ hR8 (by omega)
               have hr7 := hr8.keep hbg (Nat.le_refl _)
               have hb7 := hbb8.trans (hbg.mono (by omega))
               clear hkeep hS8 hR8 hr8 hbb8 hbg))
          go_roundw
          case rel => exact ⟨j + 1, by omega, by go_num, hR7, by rw [NX.out]; exact hS7, hr7, hb7⟩
          case measure => simp [intOf]; omega
    · have ej : j = M := by omega
      subst ej
      have hfl := foldS_len p j
      have fin : sumL bs = digL (foldS p j) := by
        rw [sumL, HP.out, LN.out, HM.out, Nat.mul_div_cancel_left _ (by omega)]
      obtain ⟨fs, hfs⟩ : ∃ fs, foldS p j = fs := ⟨_, rfl⟩
      rw [hfs] at hS hfl fin
      have FL : Keep _ := ⟨hfl⟩
      have FIN : Keep _ := ⟨fin⟩
      clear hfs hfl fin hlt hj hr5
      generalize wr = w5 at *
      have hO0 : Has (w5.alloc (.cells (vals .u8 Z32) 29)) w5.heap.size 29 (vals .u8 (fill 32 (digF fs) (nth Z32) 0)) := by
        rw [fill_zero 32 _ Z32 rfl]
        exact Has.new _ _ _
      have hbo0 : Below w5.heap.size w5 (w5.alloc (.cells (vals .u8 Z32) 29)) := (Below.refl _ _).alloc (Nat.le_refl _) _
      have hg5 : w1.heap.size < w5.heap.size := hS.lt
      go_wp2
      go_loopw [9] (fun i w2 => ∃ k : Nat, k ≤ 32 ∧ i = .int .i64 k ∧ Has w2 w5.heap.size 29 (vals .u8 (fill 32 (digF fs) (nth Z32) k)) ∧ Below w5.heap.size w5 w2) (fun i _ => 32 - (intOf i).toNat)
      case atStart => exact ⟨0, Nat.zero_le _, rfl, hO0, hbo0⟩
      case round =>
        clear hO0 hbo0
        obtain ⟨k, hk, rfl, hO, hbo⟩ := hrel
        by_cases hlk : k < 32
        · have cs := (hS.keep hbo).val (i := k / 4) (by rw [FL.out]; omega)
          have ck := hO.val (i := k) (by rw [fill_len]; exact hlk)
          have zk := hO.frozen k
          go_wp2
          go_roundw
          case rel =>
            refine ⟨k + 1, by omega, by go_num, ?_, hbo.setCell (Nat.le_refl _) _⟩
            have := hO.set_ k (.int .u8 (nth fs (k / 4) / 2 ^ (24 - 8 * (k % 4)) % 256))
            rwa [vals_set, fill_set (digF fs) (nth Z32) hlk (x := nth fs (k / 4) / 2 ^ (24 - 8 * (k % 4)) % 256) rfl] at this
          case measure => simp [intOf]; omega
        · have ek : k = 32 := by omega
          subst ek
          have hdl : (digL fs).length = 32 := fill_len _ _ _ _
          have hO' : Has wr w5.heap.size 29 (vals .u8 (digL fs)) := hO
          obtain ⟨ds, hds⟩ : ∃ ds, digL fs = ds := ⟨_, rfl⟩
          rw [hds] at hO' hdl
          have DS : Keep _ := ⟨hds⟩
          have DL : Keep _ := ⟨hdl⟩
          have hR9 := hR.keep hbo
          have hb9 := hb.trans (hbo.mono hb.size)
          clear hds hdl hO hbo hR hb hS
          go_wp2_with (first
            | (refine wpList_load_row rfl 29 (.tmp 8) rfl w5.heap.size rfl _ _ _ _ hO'.eq Try.underlying29 rfl (by rw [vals_size, DL.out]; kernel_rfl) ?_)
            | (refine wpList_store_rowTo (by rfl) 29 (.tmp 2) (.tmp 52) (by rfl) (by rfl) w.heap.size (vals .u8 ds) (by rfl) (by rfl) _ _ hR9.eq (by rw [vals_size, DL.out]; kernel_rfl) (by rw [vals_size, vals_size, DL.out]; rfl) vals_one ?_))
          rw [FIN.out, DS.out]
          refine bodyPost_ret (v := .agg (vals .u8 ds)) (results_cell_row rfl _ _ w.heap.size _ _ _ _ rfl (hR9.row _).eq Try.underlying29 rfl (by rw [vals_size, DL.out]; kernel_rfl)) rfl ⟨rfl, below_row hb9 (Nat.le_refl _) _⟩

set_option maxRecDepth 100000 in
set_option maxHeartbeats 1000000 in
theorem same_c (A A' : Option Addr) (n c n' c' : Nat) (xs ys : List Int) (B B' : Nat) (w : World) (hr : Rd w B A n .u8 xs) (hB : B ≤ w.heap.size) (hr' : Rd w B' A' n' .u8 ys) (hB' : B' ≤ w.heap.size) (hn : n ≤ 1000000) (hn' : n' ≤ 1000000) :
    Calls Try.prog 12 #[.slice A n c, .slice A' n' c'] w fun e w' => e = .returned (.bool (decide (xs = ys))) ∧ Below w.heap.size w w' := by
  have LX : Keep _ := ⟨hr.len⟩
  have LY : Keep _ := ⟨hr'.len⟩
  by_cases hnn : n = n'
  · subst hnn
    go_enter Try.func12, Try.ntmps12
    go_wp2
    go_loopw [5] (fun i wr => ∃ k : Nat, k ≤ n ∧ i = .int .i64 k ∧ Keep (∀ j, j < k → nth xs j = nth ys j) ∧ Below w.heap.size w wr) (fun i _ => n - (intOf i).toNat)
    case atStart => exact ⟨0, Nat.zero_le _, rfl, ⟨fun j hj => by omega⟩, Below.refl _ _⟩
    case round =>
      obtain ⟨k, hk, rfl, hE, hb⟩ := hrel
      by_cases hlt : k < n
      · obtain ⟨b1, o1, rfl, hlb1, hc1⟩ := hr.at_ (by omega)
        obtain ⟨b2, o2, rfl, hlb2, hc2⟩ := hr'.at_ (by omega)
        by_cases hxy : nth xs k = nth ys k
        · have hbo : (nth xs k != nth ys k) = false := by rw [bne_eq_false_iff_eq]; exact hxy
          have HXY : Keep _ := ⟨hxy⟩
          clear hxy
          go_wp2
          refine wp_fam_all (by kernel_rfl) (by kernel_rfl) (fun I hI' fw hf hback => ?_)
          have c1 : ∀ j, (fw j).cell? ⟨b1, o1 + k, none⟩ = some (.int .u8 (nth xs k)) := fun j => ((hb.trans ((hf j).mono hb.size)).cell (p := ⟨b1, o1 + k, none⟩) (by show b1 < _; omega)).trans (hc1 k hlt)
          have c2 : ∀ j, (fw j).cell? ⟨b2, o2 + k, none⟩ = some (.int .u8 (nth ys k)) := fun j => ((hb.trans ((hf j).mono hb.size)).cell (p := ⟨b2, o2 + k, none⟩) (by show b2 < _; omega)).trans (hc2 k hlt)
          repeat (go_big_quiet_step (fail))
          refine wpQuiet_nil ?_
          intro w6 hb6
          clear c1 c2 hf hback
          go_wp2
          go_roundw
          case rel =>
            refine ⟨k + 1, by omega, by go_num, ⟨fun j hj => ?_⟩, hb.trans (hb6.mono hb.size)⟩
            rcases Nat.lt_or_ge j k with h | h
            · exact hE.out j h
            · obtain rfl : j = k := by omega
              exact HXY.out
          case measure => simp [intOf]; omega
        · have hbo : (nth xs k != nth ys k) = true := by rw [bne_iff_ne]; exact hxy
          have hxne : xs ≠ ys := fun h => hxy (by rw [h])
          have HNE : Keep _ := ⟨hxne⟩
          clear hxy hxne
          go_wp2
          refine wp_fam_all (by kernel_rfl) (by kernel_rfl) (fun I hI' fw hf hback => ?_)
          have c1 : ∀ j, (fw j).cell? ⟨b1, o1 + k, none⟩ = some (.int .u8 (nth xs k)) := fun j => ((hb.trans ((hf j).mono hb.size)).cell (p := ⟨b1, o1 + k, none⟩) (by show b1 < _; omega)).trans (hc1 k hlt)
          have c2 : ∀ j, (fw j).cell? ⟨b2, o2 + k, none⟩ = some (.int .u8 (nth ys k)) := fun j => ((hb.trans ((hf j).mono hb.size)).cell (p := ⟨b2, o2 + k, none⟩) (by show b2 < _; omega)).trans (hc2 k hlt)
          repeat (go_big_quiet_step (fail))
          refine wpQuiet_nil ?_
          intro w6 hb6
          clear c1 c2 hf hback
          go_wp2
          go_ret
          exact ⟨ret_eq (congrArg Value.bool (decide_eq_false HNE.out).symm), hb.trans (hb6.mono hb.size)⟩
      · have ek : k = n := by omega
        subst ek
        go_wp2
        go_ret
        exact ⟨ret_eq (congrArg Value.bool (decide_eq_true (ext_nth (by rw [LX.out, LY.out]) fun i hi => hE.out i (by have := LX.out; omega))).symm), hb⟩
  · have hne : ((n : Int) != (n' : Int)) = true := by rw [bne_iff_ne]; omega
    have hxne : xs ≠ ys := fun h => hnn (by rw [← LX.out, ← LY.out, h])
    have HNE : Keep _ := ⟨hxne⟩
    clear hxne hnn
    go_enter Try.func12, Try.ntmps12
    go_wp2
    go_ret
    exact ⟨ret_eq (congrArg Value.bool (decide_eq_false HNE.out).symm), Below.refl _ _⟩
end Go.Proofs.Ytkjbfkhiijnemaa.Sha
