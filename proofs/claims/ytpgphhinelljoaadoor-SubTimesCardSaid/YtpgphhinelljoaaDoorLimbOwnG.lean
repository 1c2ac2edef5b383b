/-
  Own text. The contracts of package limb: so many times a number taken away; a number shifted up; a number without noughts at its top.
-/
import Derived.Test.YtpgphhinelljoaaDoorLimbOwnE
import Derived.Test.YtpgphhinelljoaaDoorLimbOwnC
import Derived.Test.YtpgphhinelljoaaDoorBitsB
namespace Go.Proofs.YtpgphhinelljoaaDoor.Limb
open Go Go.RowKit Go.Proofs.YtpgphhinelljoaaDoor.Reg Go.Proofs.YtpgphhinelljoaaDoor.Base Go.Proofs.YtpgphhinelljoaaDoor.Bits

/-- A word less a product and what was borrowed: the word that stays, and what is borrowed. -/
theorem word_sub {p c t s1 o2 : Int} (hp0 : 0 ≤ p) (hp1 : p ≤ 340282366920938463426481119284349108225) (hc0 : 0 ≤ c) (hc1 : c ≤ 18446744073709551615) (ht0 : 0 ≤ t) (ht1 : t ≤ 18446744073709551615)
    (hs : (p % 18446744073709551616 + c) % 18446744073709551616 = s1) (ho : (t < s1 ∧ o2 = 1) ∨ (s1 ≤ t ∧ o2 = 0)) :
    (t - s1) % 18446744073709551616 - 18446744073709551616 * (p / 18446744073709551616 + (p % 18446744073709551616 + c) / 18446744073709551616 + o2) = t - (p + c) ∧
    0 ≤ p / 18446744073709551616 ∧ 0 ≤ (p % 18446744073709551616 + c) / 18446744073709551616 ∧ p / 18446744073709551616 + (p % 18446744073709551616 + c) / 18446744073709551616 ≤ 18446744073709551615 ∧
    0 ≤ p / 18446744073709551616 + (p % 18446744073709551616 + c) / 18446744073709551616 + o2 ∧ p / 18446744073709551616 + (p % 18446744073709551616 + c) / 18446744073709551616 + o2 ≤ 18446744073709551615 := by omega

set_option maxRecDepth 100000 in
set_option maxHeartbeats 1000000 in
theorem subNext_c (t y x cy : Int) (ht0 : 0 ≤ t) (ht1 : t ≤ 18446744073709551615) (hy0 : 0 ≤ y) (hy1 : y ≤ 18446744073709551615) (hx0 : 0 ≤ x) (hx1 : x ≤ 18446744073709551615) (hc0 : 0 ≤ cy) (hc1 : cy ≤ 18446744073709551615) (g g' : Nat) (w : World) (hX : Has w g 22 (vals .u64 [x])) (hC : Has w g' 22 (vals .u64 [cy])) :
    Calls Tryd.prog 99 #[.int .u64 t, .int .u64 y, .pointer (some ⟨g, 0, none⟩), .pointer (some ⟨g', 0, none⟩)] w fun e w' => ∃ u v : Int, e = .returned (.int .u64 u) ∧ u - 18446744073709551616 * v = t - (x * y + cy) ∧ 0 ≤ u ∧ u ≤ 18446744073709551615 ∧ 0 ≤ v ∧ v ≤ 18446744073709551615 ∧ Has w' g' 22 (vals .u64 [v]) ∧ (∀ g1 t1 cs1, Has w g1 t1 cs1 → g1 ≠ g' → Has w' g1 t1 cs1) ∧ Below g' w w' := by
  have hp := word_prod hx0 hx1 hy0 hy1
  obtain ⟨s1, hs1⟩ : ∃ z, (x * y % 18446744073709551616 + cy) % 18446744073709551616 = z := ⟨_, rfl⟩
  obtain ⟨o2, ho2⟩ : ∃ z, (if t < s1 then (1 : Int) else 0) = z := ⟨_, rfl⟩
  have hoo : (t < s1 ∧ o2 = 1) ∨ (s1 ≤ t ∧ o2 = 0) := by
    rcases Int.lt_or_le t s1 with h | h
    · rw [if_pos h] at ho2; omega
    · rw [if_neg (by omega)] at ho2; omega
  have ar := word_sub hp.1 hp.2 hc0 hc1 ht0 ht1 hs1 hoo
  have MU := fun w => mul64_c x y hx0 hx1 hy0 hy1 w
  obtain ⟨hi, hhi⟩ : ∃ z, x * y / 18446744073709551616 = z := ⟨_, rfl⟩
  obtain ⟨lo, hlo⟩ : ∃ z, x * y % 18446744073709551616 = z := ⟨_, rfl⟩
  rw [hhi, hlo] at MU ar
  rw [hlo] at hs1
  have MU' : Keep _ := ⟨MU⟩
  have blo : 0 ≤ lo ∧ lo ≤ 18446744073709551615 := by omega
  obtain ⟨o1, ho1⟩ : ∃ z, (lo + cy) / 18446744073709551616 = z := ⟨_, rfl⟩
  obtain ⟨u, hu⟩ : ∃ z, (t - s1) % 18446744073709551616 = z := ⟨_, rfl⟩
  obtain ⟨v, hv⟩ : ∃ z, hi + o1 + o2 = z := ⟨_, rfl⟩
  rw [ho1, hu, hv] at ar
  have bs1 : 0 ≤ s1 ∧ s1 ≤ 18446744073709551615 := by omega
  have hadd1 := addc_run lo cy 0 blo.1 hc0 (by omega) (by omega)
  rw [Int.add_zero, hs1, ho1] at hadd1
  have hsub := subc_run t s1 0 ht0 bs1.1 bs1.2 (by omega) (by omega)
  rw [Int.add_zero, Int.sub_zero, ho2, hu] at hsub
  have hw1 : IntKind.u64.wrap (hi + o1) = hi + o1 := by rw [IntKind.wrap_u64]; omega
  have hw2 : IntKind.u64.wrap (hi + o1 + o2) = v := by rw [IntKind.wrap_u64]; omega
  have c1 := hX.val (i := 0) (by simp)
  have c2 := hC.val (i := 0) (by simp)
  have z2 := hC.frozen 0
  have h4 := hC.set_ 0 (.int .u64 v)
  have H5 : Keep (∀ g1 t1 cs1, Has w g1 t1 cs1 → g1 ≠ g' → Has (w.setCell ⟨g', 0, none⟩ (.int .u64 v)) g1 t1 cs1) := ⟨fun g1 t1 cs1 h hne => h.far hne _⟩
  have h6 : Below g' w (w.setCell ⟨g', 0, none⟩ (.int .u64 v)) := (Below.refl g' w).setCell (p := ⟨g', 0, none⟩) (Nat.le_refl g') _
  simp only [nth, List.getD_cons_zero] at c1 c2
  have FIN : Keep (u - 18446744073709551616 * v = t - (x * y + cy) ∧ 0 ≤ u ∧ u ≤ 18446744073709551615 ∧ 0 ≤ v ∧ v ≤ 18446744073709551615) := ⟨⟨ar.1, by omega, by omega, by omega, by omega⟩⟩
  clear hX hC hhi hlo hs1 ho1 ho2 hu hv ar MU hp blo bs1 hoo
  go_enter Tryd.func99, Tryd.ntmps99
  go_wp2_with (go_at_call 87; refine (MU'.out _).mono ?_; rintro e w' ⟨rfl, rfl⟩)
  go_ret
  exact ⟨u, v, rfl, FIN.out.1, FIN.out.2.1, FIN.out.2.2.1, FIN.out.2.2.2.1, FIN.out.2.2.2.2, h4, H5.out, h6⟩

theorem sub_times_step {o d b : List Int} {k : Nat} {cy t nx x : Int} (ho : o.length = k) (hi : num o - wp k * cy = low d k - x * low b k) (hx : t - 18446744073709551616 * nx = nth d k - (x * nth b k + cy)) :
    num (o ++ [t]) - wp (k + 1) * nx = low d (k + 1) - x * low b (k + 1) := by
  rw [num_snoc, ho, wp_succ, low_succ, low_succ]
  grind

set_option maxRecDepth 100000 in
set_option maxHeartbeats 4000000 in
theorem subTimes_c (g m cw : Nat) (l : List Int) (A' : Option Addr) (c' : Nat) (b : List Int) (x : Int) (B : Nat) (w : World) (hW : Has w g 22 (vals .u64 l)) (hwl : Words l) (hll : l.length = m + 1) (hr : Rd w B A' m .u64 b) (hwb : Words b) (hB : B ≤ g) (hx0 : 0 ≤ x) (hx1 : x ≤ 18446744073709551615) (hm : m ≤ 10000) :
    Calls Tryd.prog 91 #[.slice (some ⟨g, 0, none⟩) (m + 1) cw, .slice A' m c', .int .u64 x] w fun e w' => ∃ (l' : List Int), e = .returned (.bool (decide (x * num b ≤ num l))) ∧ Has w' g 22 (vals .u64 l') ∧ Words l' ∧ l'.length = m + 1 ∧ (x * num b ≤ num l → num l' = num l - x * num b) ∧ Only g w w' := by
  have WL : Keep _ := ⟨hwl⟩
  have WB : Keep _ := ⟨hwb⟩
  have LL : Keep _ := ⟨hll⟩
  have LB : Keep (low b m = num b) := ⟨by rw [← hr.len]; rfl⟩
  have hgl := hW.lt
  clear hwl hwb hll
  obtain ⟨S, hS⟩ : ∃ S, w.heap.size = S := ⟨_, rfl⟩
  obtain ⟨w1, hw1⟩ : ∃ w1, w.alloc (.cells #[.int .u64 x] 22) = w1 := ⟨_, rfl⟩
  obtain ⟨w2, hw2⟩ : ∃ w2, w1.alloc (.cells #[.int .u64 0] 22) = w2 := ⟨_, rfl⟩
  have hs1 : w1.heap.size = S + 1 := by rw [← hw1, World.size_alloc, hS]
  have hX : Has w2 S 22 (vals .u64 [x]) := by rw [← hw2, ← hw1]; exact (Has.new' _ hS.symm _ _).alloc _
  have hC : Has w2 (S + 1) 22 (vals .u64 [0]) := by rw [← hw2]; exact Has.new' _ hs1.symm _ _
  have hD : Has w2 g 22 (vals .u64 ([] ++ l.drop 0)) := by
    rw [List.nil_append, List.drop_zero, ← hw2, ← hw1]
    exact (hW.alloc _).alloc _
  have hb : Only g w w2 := by
    refine Only.of_below ?_ g
    rw [← hw2, ← hw1]
    exact ((Below.refl _ _).alloc (Nat.le_refl _) _).alloc (by simp) _
  have HS : Keep _ := ⟨hS⟩
  rw [hS] at hgl
  go_enter Tryd.func91, Tryd.ntmps91
  go_wp2
  go_loopw [16] (fun vi wr => ∃ (k : Nat) (o : List Int) (cy : Int), k ≤ m ∧ vi = .int .i64 k ∧ 0 ≤ cy ∧ cy ≤ 18446744073709551615 ∧ Has wr S 22 (vals .u64 [x]) ∧ Has wr (S + 1) 22 (vals .u64 [cy]) ∧ Has wr g 22 (vals .u64 (o ++ l.drop k)) ∧ Keep (Words o ∧ o.length = k ∧ num o - wp k * cy = low l k - x * low b k) ∧ Only g w wr) (fun vi _ => m - (intOf vi).toNat)
  case atStart => exact ⟨0, [], 0, Nat.zero_le _, rfl, by omega, by omega, hX, hC, hD, ⟨words_nil, rfl, by simp [num_nil, low_zero]⟩, hb⟩
  case round =>
    clear hX hC hD hb hw1 hw2 hs1
    obtain ⟨k, o, cy, hk, rfl, hc0, hc1, hX, hC, hD, hI, hb⟩ := hrel
    by_cases hlt : k < m
    · obtain ⟨b1, o1, rfl, hlb1, hcs1⟩ := hr.at_ (by omega)
      obtain ⟨y, hy⟩ : ∃ y, nth b k = y := ⟨_, rfl⟩
      obtain ⟨t, ht⟩ : ∃ t, nth l k = t := ⟨_, rfl⟩
      have by' : 0 ≤ y ∧ y ≤ 18446744073709551615 := hy ▸ WB.out k
      have bt : 0 ≤ t ∧ t ≤ 18446744073709551615 := ht ▸ WL.out k
      have hml : (o ++ l.drop k).length = m + 1 := mix_len hI.out.2.1 LL.out (by omega)
      have cb : wr.cell? ⟨b1, o1 + k, none⟩ = some (.int .u64 y) := ((hb.below hB (by have := HS.out; omega)).cell (p := ⟨b1, o1 + k, none⟩) hlb1).trans (by rw [hcs1 k hlt, hy])
      have ct : wr.cell? ⟨g, k, none⟩ = some (.int .u64 t) := by
        rw [← ht, ← mix_nth (l := l) hI.out.2.1]
        exact hD.val (by omega)
      have HN : Keep (∀ (w : World), _ → _ → _) := ⟨fun (w : World) hX hC => subNext_c t y x cy bt.1 bt.2 by'.1 by'.2 hx0 hx1 hc0 hc1 S (S + 1) w hX hC⟩
      have HT : Keep (nth l k = t ∧ nth b k = y) := ⟨ht, hy⟩
      clear ht hy hcs1
      go_wp2_with (go_at_call 99
                   refine (HN.out _ hX hC).mono ?_
                   rintro e w2 ⟨u, v, rfl, hE, hu0, hu1, hv0, hv1, hC2, hfar, hb2⟩
                   have HE : Keep _ := ⟨hE⟩
                   have hX2 := hfar _ _ _ hX (by omega)
                   have hD2 := hfar _ _ _ hD (by omega)
                   have hbb2 := hb.then hb2 (by have := HS.out; omega)
                   have c0 := hD2.val (i := k) (by omega)
                   have z0 := hD2.frozen k
                   clear hX hC hD hfar hb2 hE)
      have h4 := hD2.set_ k (.int .u64 u)
      rw [vals_set, mix_set hI.out.2.1 (by have := LL.out; omega)] at h4
      have hX4 := hX2.far (p := ⟨g, k, none⟩) (by show S ≠ g; omega) (.int .u64 u)
      have hC4 := hC2.far (p := ⟨g, k, none⟩) (by show S + 1 ≠ g; omega) (.int .u64 u)
      have hI4 : Keep (Words (o ++ [u]) ∧ (o ++ [u]).length = k + 1 ∧ num (o ++ [u]) - wp (k + 1) * v = low l (k + 1) - x * low b (k + 1)) := ⟨words_append hI.out.1 (words_one hu0 hu1), by rw [List.length_append, hI.out.2.1]; rfl, sub_times_step hI.out.2.1 hI.out.2.2 (by rw [HT.out.1, HT.out.2]; exact HE.out)⟩
      have hb4 := hbb2.set_ (p := ⟨g, k, none⟩) rfl (.int .u64 u)
      first
        | exact ⟨⟨k + 1, o ++ [u], v, by omega, by go_num, hv0, hv1, hX4, hC4, h4, hI4, hb4⟩, by simp [intOf]; omega⟩
        | (go_roundw
           case rel => exact ⟨k + 1, o ++ [u], v, by omega, by go_num, hv0, hv1, hX4, hC4, h4, hI4, hb4⟩
           case measure => simp [intOf]; omega)
    · obtain rfl : k = m := by omega
      obtain ⟨t, ht⟩ : ∃ t, nth l k = t := ⟨_, rfl⟩
      have bt : 0 ≤ t ∧ t ≤ 18446744073709551615 := ht ▸ WL.out k
      have hml : (o ++ l.drop k).length = k + 1 := mix_len hI.out.2.1 LL.out (by omega)
      have hnt : nth (o ++ l.drop k) k = t := by rw [mix_nth hI.out.2.1, ht]
      have bo := num_bounds hI.out.1
      rw [hI.out.2.1] at bo
      have hnl : num l = low l k + wp k * t := by rw [num, LL.out, low_succ, ht]
      have hE := hI.out.2.2
      rw [LB.out] at hE
      have hset : ∀ d : Int, (o ++ l.drop k).set k d = o ++ [d] := fun d => by
        rw [mix_set hI.out.2.1 (by have := LL.out; omega), List.drop_eq_nil_of_le (by have := LL.out; omega), List.append_nil]
      have HSET : Keep _ := ⟨hset⟩
      have hWO : ∀ d : Int, 0 ≤ d → d ≤ 18446744073709551615 → Words (o ++ [d]) ∧ (o ++ [d]).length = k + 1 ∧ num (o ++ [d]) = num o + wp k * d := fun d h0 h1 => ⟨words_append hI.out.1 (words_one h0 h1), by rw [List.length_append, hI.out.2.1]; rfl, by rw [num_snoc, hI.out.2.1]⟩
      have HWO : Keep _ := ⟨hWO⟩
      have HDD : Keep (num l - x * num b = num o + wp k * (t - cy)) := ⟨by rw [hnl, Int.mul_sub]; omega⟩
      clear hset hWO hnl hE ht
      rcases Int.lt_or_le t cy with h1 | h1
      · have hneg : num l - x * num b < 0 := by
          rw [HDD.out]
          have : wp k * (t - cy) ≤ wp k * (-1) := Int.mul_le_mul_of_nonneg_left (by omega) (Int.le_of_lt (wp_pos k))
          omega
        have HDEC : Keep (decide (x * num b ≤ num l) = false) := ⟨by rw [decide_eq_false_iff_not]; omega⟩
        have HNO : Keep (¬ x * num b ≤ num l) := ⟨by omega⟩
        obtain ⟨d, hd⟩ : ∃ d, IntKind.u64.wrap (t - cy) = d := ⟨_, rfl⟩
        have bd : 0 ≤ d ∧ d ≤ 18446744073709551615 := by rw [← hd, IntKind.wrap_u64]; omega
        clear hneg bo
        go_wp2
        refine wp_fam_all (by kernel_rfl) (by kernel_rfl) (fun I hI' fw hf hback => ?_)
        have c1 : ∀ j, (fw j).cell? ⟨S + 1, 0, none⟩ = some (.int .u64 cy) := fun j => (hC.keep (hf j)).val (i := 0) (by simp)
        have c2 : ∀ j, (fw j).cell? ⟨g, k, none⟩ = some (.int .u64 t) := fun j => by rw [← hnt]; exact (hD.keep (hf j)).val (by omega)
        repeat (go_big_quiet_step (fail))
        refine wpQuiet_nil ?_
        intro w6 hb6
        have hC6 := hC.keep hb6
        have hD6 := hD.keep hb6
        have hbb6 := hb.then hb6 hb.size
        clear c1 c2 hf hback hC hD hX hb hb6
        go_wp2
        refine wp_fam 7 (by kernel_rfl) (by kernel_rfl) (fun I hI' fw hf hback => ?_)
        simp only [List.take_succ_cons, List.take_zero, List.drop_succ_cons, List.drop_zero]
        have c1 : ∀ j, (fw j).cell? ⟨S + 1, 0, none⟩ = some (.int .u64 cy) := fun j => (hC6.keep (hf j)).val (i := 0) (by simp)
        have c2 : ∀ j, (fw j).cell? ⟨g, k, none⟩ = some (.int .u64 t) := fun j => by rw [← hnt]; exact (hD6.keep (hf j)).val (by omega)
        repeat (go_big_quiet_step (fail))
        refine wpQuiet_nil ?_
        intro w7 hb7
        have hD7 := hD6.keep hb7
        have hbb7 := hbb6.then hb7 hbb6.size
        have e0 := hD7.val (i := k) (by omega)
        have z0 := hD7.frozen k
        have h4 := hD7.set_ k (.int .u64 d)
        rw [vals_set, HSET.out] at h4
        have hb4 := hbb7.set_ (p := ⟨g, k, none⟩) rfl (.int .u64 d)
        clear c1 c2 hf hback hC6 hD6 hbb6 hb7 hbb7 hD7
        go_wp2
        go_ret
        exact ⟨o ++ [d], ret_eq (congrArg Value.bool (by rw [HDEC.out, decide_eq_false_iff_not]; omega)), h4, (HWO.out d bd.1 bd.2).1, (HWO.out d bd.1 bd.2).2.1, fun h => (by have := HNO.out; omega), hb4⟩
      · have hpos : 0 ≤ wp k * (t - cy) := Int.mul_nonneg (Int.le_of_lt (wp_pos k)) (by omega)
        have HDEC : Keep (decide (x * num b ≤ num l) = true) := ⟨by rw [decide_eq_true_iff]; have := HDD.out; omega⟩
        have hd : IntKind.u64.wrap (t - cy) = t - cy := by rw [IntKind.wrap_u64]; omega
        have hle : cy ≤ t := h1
        clear hpos bo
        go_wp2
        refine wp_fam_all (by kernel_rfl) (by kernel_rfl) (fun I hI' fw hf hback => ?_)
        have c1 : ∀ j, (fw j).cell? ⟨S + 1, 0, none⟩ = some (.int .u64 cy) := fun j => (hC.keep (hf j)).val (i := 0) (by simp)
        have c2 : ∀ j, (fw j).cell? ⟨g, k, none⟩ = some (.int .u64 t) := fun j => by rw [← hnt]; exact (hD.keep (hf j)).val (by omega)
        repeat (go_big_quiet_step (fail))
        refine wpQuiet_nil ?_
        intro w6 hb6
        have hC6 := hC.keep hb6
        have hD6 := hD.keep hb6
        have hbb6 := hb.then hb6 hb.size
        clear c1 c2 hf hback hC hD hX hb hb6
        go_wp2
        refine wp_fam 7 (by kernel_rfl) (by kernel_rfl) (fun I hI' fw hf hback => ?_)
        simp only [List.take_succ_cons, List.take_zero, List.drop_succ_cons, List.drop_zero]
        have c1 : ∀ j, (fw j).cell? ⟨S + 1, 0, none⟩ = some (.int .u64 cy) := fun j => (hC6.keep (hf j)).val (i := 0) (by simp)
        have c2 : ∀ j, (fw j).cell? ⟨g, k, none⟩ = some (.int .u64 t) := fun j => by rw [← hnt]; exact (hD6.keep (hf j)).val (by omega)
        repeat (go_big_quiet_step (fail))
        refine wpQuiet_nil ?_
        intro w7 hb7
        have hD7 := hD6.keep hb7
        have hbb7 := hbb6.then hb7 hbb6.size
        have e0 := hD7.val (i := k) (by omega)
        have z0 := hD7.frozen k
        have h4 := hD7.set_ k (.int .u64 (t - cy))
        rw [vals_set, HSET.out] at h4
        have hb4 := hbb7.set_ (p := ⟨g, k, none⟩) rfl (.int .u64 (t - cy))
        have HW := HWO.out (t - cy) (by omega) (by omega)
        have HW' : Keep _ := ⟨HW⟩
        clear c1 c2 hf hback hC6 hD6 hbb6 hb7 hbb7 hD7 HW
        go_wp2
        go_ret
        exact ⟨o ++ [t - cy], ret_eq (congrArg Value.bool (by rw [HDEC.out])), h4, HW'.out.1, HW'.out.2.1, fun _ => by rw [HW'.out.2.2, HDD.out], hb4⟩
end Go.Proofs.YtpgphhinelljoaaDoor.Limb
