/-
  Own text. The contracts of layer 3's reference: At, Add, Sub.
-/
import Derived.Test.YthaoebamnlmfpaaLimbSpec
namespace Go.Proofs.Ythaoebamnlmfpaa.Limb
open Go Go.RowKit Go.Proofs.Ythaoebamnlmfpaa.Reg Go.Proofs.Ythaoebamnlmfpaa.Base

/-- The sum's words, and what is carried. -/
def addL (a b : List Int) : List Int := wd (max a.length b.length) (num a + num b)
def addC (a b : List Int) : Int := (num a + num b) / wp (max a.length b.length)
def subL (a b : List Int) : List Int := wd (max a.length b.length) (num a - num b)
def subC (a b : List Int) : Int := if num a < num b then 1 else 0

theorem more_c (a b : Nat) (w : World) : Calls Try.prog 60 #[.int .i64 (a : Int), .int .i64 (b : Int)] w fun e w' => e = .returned (.int .i64 ((max a b : Nat) : Int)) ∧ w = w' := by
  rcases Nat.lt_or_ge b a with h | h
  · have e1 : max a b = a := by omega
    rw [e1]
    go_enter Try.func60, Try.ntmps60
    go_wp2
    go_ret
    exact ⟨rfl, rfl⟩
  · have e1 : max a b = b := by omega
    rw [e1]
    go_enter Try.func60, Try.ntmps60
    go_wp2
    go_ret
    exact ⟨rfl, rfl⟩

theorem at_c (A : Option Addr) (n c : Nat) (l : List Int) (B : Nat) (k : Nat) (w : World) (hr : Rd w B A n .u64 l) : Calls Try.prog 52 #[.slice A n c, .int .i64 (k : Int)] w fun e w' => e = .returned (.int .u64 (nth l k)) ∧ w = w' := by
  rcases Nat.lt_or_ge k n with h | h
  · obtain ⟨b1, o1, rfl, hlb1, hc1⟩ := hr.at_ (by omega)
    have hcell := hc1 k h
    go_enter Try.func52, Try.ntmps52
    go_wp2
    go_ret
    exact ⟨rfl, rfl⟩
  · have e1 : nth l k = 0 := nth_ge (by rw [hr.len]; exact h)
    rw [e1]
    go_enter Try.func52, Try.ntmps52
    go_wp2
    go_ret
    exact ⟨rfl, rfl⟩

/-- One step of a sum: words o below, what is carried. -/
theorem add_step {o a b : List Int} {k : Nat} {cy t nx : Int} (ho : o.length = k) (hi : num o + wp k * cy = low a k + low b k) (hx : t + 18446744073709551616 * nx = nth a k + nth b k + cy) :
    num (o ++ [t]) + wp (k + 1) * nx = low a (k + 1) + low b (k + 1) := by
  rw [num_snoc, ho, wp_succ, low_succ, low_succ]
  grind
theorem sub_step {o a b : List Int} {k : Nat} {cy t nx : Int} (ho : o.length = k) (hi : num o - wp k * cy = low a k - low b k) (hx : t - 18446744073709551616 * nx = nth a k - nth b k - cy) :
    num (o ++ [t]) - wp (k + 1) * nx = low a (k + 1) - low b (k + 1) := by
  rw [num_snoc, ho, wp_succ, low_succ, low_succ]
  grind
theorem add_end {o a b : List Int} {n n' k : Nat} {cy : Int} (la : a.length = n) (lb : b.length = n') (hk : max n n' = k) (hw : Words o) (ho : o.length = k) (hi : num o + wp k * cy = low a k + low b k) : o = addL a b ∧ cy = addC a b := by
  rw [low_num (by omega), low_num (by omega)] at hi
  have := wd_of hw ho hi
  rw [addL, addC, la, lb, hk]
  exact this
theorem sub_end {o a b : List Int} {n n' k : Nat} {cy : Int} (la : a.length = n) (lb : b.length = n') (hk : max n n' = k) (hw : Words o) (ho : o.length = k) (h0 : cy = 0 ∨ cy = 1) (hi : num o - wp k * cy = low a k - low b k) : o = subL a b ∧ cy = subC a b := by
  rw [low_num (by omega), low_num (by omega)] at hi
  have h1 := wd_of (c := -cy) (v := num a - num b) hw ho (by rw [← hi]; grind)
  refine ⟨by rw [subL, la, lb, hk]; exact h1.1, ?_⟩
  have hb := num_bounds hw
  rw [ho] at hb
  unfold subC
  rcases h0 with rfl | rfl
  · rw [if_neg (by omega)]
  · rw [if_pos (by omega)]

set_option maxRecDepth 100000 in
set_option maxHeartbeats 2000000 in
theorem refAdd_c (A : Option Addr) (n c : Nat) (a : List Int) (A' : Option Addr) (n' c' : Nat) (b : List Int) (B : Nat) (w : World) (hr : Rd w B A n .u64 a) (hwa : Words a) (hr' : Rd w B A' n' .u64 b) (hwb : Words b) (hB : B ≤ w.heap.size) (hn : n ≤ 100000) (hn' : n' ≤ 100000) :
    Calls Try.prog 51 #[.slice A n c, .slice A' n' c'] w fun e w' => ∃ A'' c'', e = .returned (.tuple #[.slice A'' (max n n') c'', .int .u64 (addC a b)]) ∧ Own w' w.heap.size 23 .u64 A'' (max n n') c'' (addL a b) ∧ Below w.heap.size w w' := by
  have LN : Keep _ := ⟨hr.len⟩
  have LN' : Keep _ := ⟨hr'.len⟩
  have WA : Keep _ := ⟨hwa⟩
  have WB : Keep _ := ⟨hwb⟩
  obtain ⟨M, hM⟩ : ∃ M, max n n' = M := ⟨_, rfl⟩
  have HM : Keep _ := ⟨hM⟩
  have hMb : M ≤ 100000 := by omega
  rw [hM]
  clear hwa hwb hM
  go_enter Try.func51, Try.ntmps51
  go_wp2
  go_loopw [6, 7, 8] (fun vo vc vi wr => ∃ (k : Nat) (Ao : Option Addr) (co : Nat) (o : List Int) (cy : Int), k ≤ M ∧ vi = .int .i64 k ∧ vc = .int .u64 cy ∧ vo = .slice Ao k co ∧ 0 ≤ cy ∧ cy ≤ 1 ∧ Own wr w.heap.size 23 .u64 Ao k co o ∧ Keep (Words o ∧ num o + wp k * cy = low a k + low b k) ∧ Below w.heap.size w wr) (fun _ _ vi _ => M - (intOf vi).toNat)
  case atStart => exact ⟨0, none, 0, [], 0, Nat.zero_le _, rfl, rfl, rfl, by omega, by omega, own_none _ _ _ _, ⟨words_nil, by simp [num_nil, low_zero]⟩, Below.refl _ _⟩
  case round =>
    obtain ⟨k, Ao, co, o, cy, hk, rfl, rfl, rfl, hc0, hc1, ho, hI, hb⟩ := hrel
    have hra := hr.keep hb hB
    have hrb := hr'.keep hb hB
    by_cases hlt : k < M
    · obtain ⟨x, hx⟩ : ∃ x, nth a k = x := ⟨_, rfl⟩
      obtain ⟨y, hy⟩ : ∃ y, nth b k = y := ⟨_, rfl⟩
      have bx : 0 ≤ x ∧ x ≤ 18446744073709551615 := hx ▸ WA.out k
      have by' : 0 ≤ y ∧ y ≤ 18446744073709551615 := hy ▸ WB.out k
      have HX : Keep _ := ⟨hx⟩
      have HY : Keep _ := ⟨hy⟩
      clear hx hy
      obtain ⟨bx0, bx1⟩ := bx
      obtain ⟨by0, by1⟩ := by'
      obtain ⟨s, hs⟩ : ∃ s, IntKind.u64.wrap (x + y) = s := ⟨_, rfl⟩
      obtain ⟨t, ht⟩ : ∃ t, IntKind.u64.wrap (s + cy) = t := ⟨_, rfl⟩
      have es : s = (x + y) % 18446744073709551616 := by rw [← hs, IntKind.wrap_u64]
      have et : t = (s + cy) % 18446744073709551616 := by rw [← ht, IntKind.wrap_u64]
      rcases Int.lt_or_le s x with h1 | h1
      · have HT : Keep (t + 18446744073709551616 * 1 = nth a k + nth b k + cy ∧ 0 ≤ t ∧ t ≤ 18446744073709551615) := ⟨by rw [HX.out, HY.out]; omega⟩
        clear es et
        go_wp2_with (first
          | (go_at_call 60; refine (more_c n n' _).mono ?_; rintro e w' ⟨rfl, rfl⟩; rw [HM.out])
          | (have q1 := f1; go_at_call 52; refine (at_c A' n' c' b B k _ hrb).mono ?_; rintro e w' ⟨rfl, rfl⟩; rw [HY.out]; clear q1 f1)
          | (go_at_call 52; refine (at_c A n c a B k _ hra).mono ?_; rintro e w' ⟨rfl, rfl⟩; rw [HX.out]; have f1 := True.intro)
          | (refine append_abs (by rfl) (.tmp 41) (.tmp 43) 39 (by rfl) w.heap.size 23 .u64 8 Try.underlying39 u64Elem Ao k co o (by rfl) (ho.keep ((Below.refl _ _).alloc (Nat.le_refl _) _)) (wr.heap.size + 1) (some ⟨wr.heap.size, 0, none⟩) 1 1 [t] (by rfl) (Rd.of_has (Has.new wr 23 (vals .u64 [t])) (by omega) (by rfl) (by simp)) (k + 1) (by rfl) (o ++ [t]) (by rfl) (by omega) (by unfold maxLen; omega) (by have := hb.size; simp; omega) ?_
             intro A2 c2 w2 ho2 hb2
             have hbb2 := (hb.alloc hb.size (.cells (vals .u64 [t]) 23)).trans hb2))
        go_roundw
        case rel => exact ⟨k + 1, A2, c2, o ++ [t], 1, by omega, by go_num, rfl, rfl, by omega, by omega, ho2, ⟨words_append hI.out.1 (words_one HT.out.2.1 HT.out.2.2), add_step ho.len hI.out.2 HT.out.1⟩, hbb2⟩
        case measure => simp [intOf]; omega
      · rcases Int.lt_or_le t s with h2 | h2
        · have HT : Keep (t + 18446744073709551616 * 1 = nth a k + nth b k + cy ∧ 0 ≤ t ∧ t ≤ 18446744073709551615) := ⟨by rw [HX.out, HY.out]; omega⟩
          clear es et
          go_wp2_with (first
            | (go_at_call 60; refine (more_c n n' _).mono ?_; rintro e w' ⟨rfl, rfl⟩; rw [HM.out])
            | (have q1 := f1; go_at_call 52; refine (at_c A' n' c' b B k _ hrb).mono ?_; rintro e w' ⟨rfl, rfl⟩; rw [HY.out]; clear q1 f1)
            | (go_at_call 52; refine (at_c A n c a B k _ hra).mono ?_; rintro e w' ⟨rfl, rfl⟩; rw [HX.out]; have f1 := True.intro)
            | (refine append_abs (by rfl) (.tmp 41) (.tmp 43) 39 (by rfl) w.heap.size 23 .u64 8 Try.underlying39 u64Elem Ao k co o (by rfl) (ho.keep ((Below.refl _ _).alloc (Nat.le_refl _) _)) (wr.heap.size + 1) (some ⟨wr.heap.size, 0, none⟩) 1 1 [t] (by rfl) (Rd.of_has (Has.new wr 23 (vals .u64 [t])) (by omega) (by rfl) (by simp)) (k + 1) (by rfl) (o ++ [t]) (by rfl) (by omega) (by unfold maxLen; omega) (by have := hb.size; simp; omega) ?_
               intro A2 c2 w2 ho2 hb2
               have hbb2 := (hb.alloc hb.size (.cells (vals .u64 [t]) 23)).trans hb2))
          go_roundw
          case rel => exact ⟨k + 1, A2, c2, o ++ [t], 1, by omega, by go_num, rfl, rfl, by omega, by omega, ho2, ⟨words_append hI.out.1 (words_one HT.out.2.1 HT.out.2.2), add_step ho.len hI.out.2 HT.out.1⟩, hbb2⟩
          case measure => simp [intOf]; omega
        · have HT : Keep (t + 18446744073709551616 * 0 = nth a k + nth b k + cy ∧ 0 ≤ t ∧ t ≤ 18446744073709551615) := ⟨by rw [HX.out, HY.out]; omega⟩
          clear es et
          go_wp2_with (first
            | (go_at_call 60; refine (more_c n n' _).mono ?_; rintro e w' ⟨rfl, rfl⟩; rw [HM.out])
            | (have q1 := f1; go_at_call 52; refine (at_c A' n' c' b B k _ hrb).mono ?_; rintro e w' ⟨rfl, rfl⟩; rw [HY.out]; clear q1 f1)
            | (go_at_call 52; refine (at_c A n c a B k _ hra).mono ?_; rintro e w' ⟨rfl, rfl⟩; rw [HX.out]; have f1 := True.intro)
            | (refine append_abs (by rfl) (.tmp 41) (.tmp 43) 39 (by rfl) w.heap.size 23 .u64 8 Try.underlying39 u64Elem Ao k co o (by rfl) (ho.keep ((Below.refl _ _).alloc (Nat.le_refl _) _)) (wr.heap.size + 1) (some ⟨wr.heap.size, 0, none⟩) 1 1 [t] (by rfl) (Rd.of_has (Has.new wr 23 (vals .u64 [t])) (by omega) (by rfl) (by simp)) (k + 1) (by rfl) (o ++ [t]) (by rfl) (by omega) (by unfold maxLen; omega) (by have := hb.size; simp; omega) ?_
               intro A2 c2 w2 ho2 hb2
               have hbb2 := (hb.alloc hb.size (.cells (vals .u64 [t]) 23)).trans hb2))
          go_roundw
          case rel => exact ⟨k + 1, A2, c2, o ++ [t], 0, by omega, by go_num, rfl, rfl, by omega, by omega, ho2, ⟨words_append hI.out.1 (words_one HT.out.2.1 HT.out.2.2), add_step ho.len hI.out.2 HT.out.1⟩, hbb2⟩
          case measure => simp [intOf]; omega
    · obtain rfl : k = M := by omega
      have he := add_end LN.out LN'.out HM.out hI.out.1 ho.len hI.out.2
      rw [he.1] at ho
      go_wp2_with (go_at_call 60; refine (more_c n n' _).mono ?_; rintro e w' ⟨rfl, rfl⟩; rw [HM.out])
      go_ret2
      exact ⟨Ao, co, rfl, ho, hb⟩

set_option maxRecDepth 100000 in
set_option maxHeartbeats 2000000 in
theorem refSub_c (A : Option Addr) (n c : Nat) (a : List Int) (A' : Option Addr) (n' c' : Nat) (b : List Int) (B : Nat) (w : World) (hr : Rd w B A n .u64 a) (hwa : Words a) (hr' : Rd w B A' n' .u64 b) (hwb : Words b) (hB : B ≤ w.heap.size) (hn : n ≤ 100000) (hn' : n' ≤ 100000) :
    Calls Try.prog 40 #[.slice A n c, .slice A' n' c'] w fun e w' => ∃ A'' c'', e = .returned (.tuple #[.slice A'' (max n n') c'', .int .u64 (subC a b)]) ∧ Own w' w.heap.size 23 .u64 A'' (max n n') c'' (subL a b) ∧ Below w.heap.size w w' := by
  have LN : Keep _ := ⟨hr.len⟩
  have LN' : Keep _ := ⟨hr'.len⟩
  have WA : Keep _ := ⟨hwa⟩
  have WB : Keep _ := ⟨hwb⟩
  obtain ⟨M, hM⟩ : ∃ M, max n n' = M := ⟨_, rfl⟩
  have HM : Keep _ := ⟨hM⟩
  have hMb : M ≤ 100000 := by omega
  rw [hM]
  clear hwa hwb hM
  go_enter Try.func40, Try.ntmps40
  go_wp2
  go_loopw [6, 7, 8] (fun vo vc vi wr => ∃ (k : Nat) (Ao : Option Addr) (co : Nat) (o : List Int) (cy : Int), k ≤ M ∧ vi = .int .i64 k ∧ vc = .int .u64 cy ∧ vo = .slice Ao k co ∧ 0 ≤ cy ∧ cy ≤ 1 ∧ Own wr w.heap.size 23 .u64 Ao k co o ∧ Keep (Words o ∧ num o - wp k * cy = low a k - low b k) ∧ Below w.heap.size w wr) (fun _ _ vi _ => M - (intOf vi).toNat)
  case atStart => exact ⟨0, none, 0, [], 0, Nat.zero_le _, rfl, rfl, rfl, by omega, by omega, own_none _ _ _ _, ⟨words_nil, by simp [num_nil, low_zero]⟩, Below.refl _ _⟩
  case round =>
    obtain ⟨k, Ao, co, o, cy, hk, rfl, rfl, rfl, hc0, hc1, ho, hI, hb⟩ := hrel
    have hra := hr.keep hb hB
    have hrb := hr'.keep hb hB
    by_cases hlt : k < M
    · obtain ⟨x, hx⟩ : ∃ x, nth a k = x := ⟨_, rfl⟩
      obtain ⟨y, hy⟩ : ∃ y, nth b k = y := ⟨_, rfl⟩
      have bx : 0 ≤ x ∧ x ≤ 18446744073709551615 := hx ▸ WA.out k
      have by' : 0 ≤ y ∧ y ≤ 18446744073709551615 := hy ▸ WB.out k
      have HX : Keep _ := ⟨hx⟩
      have HY : Keep _ := ⟨hy⟩
      clear hx hy
      obtain ⟨bx0, bx1⟩ := bx
      obtain ⟨by0, by1⟩ := by'
      obtain ⟨s, hs⟩ : ∃ s, IntKind.u64.wrap (x - y) = s := ⟨_, rfl⟩
      obtain ⟨t, ht⟩ : ∃ t, IntKind.u64.wrap (s - cy) = t := ⟨_, rfl⟩
      have es : s = (x - y) % 18446744073709551616 := by rw [← hs, IntKind.wrap_u64]
      have et : t = (s - cy) % 18446744073709551616 := by rw [← ht, IntKind.wrap_u64]
      rcases Int.lt_trichotomy x y with h1 | h1 | h1
      · have HT : Keep (t - 18446744073709551616 * 1 = nth a k - nth b k - cy ∧ 0 ≤ t ∧ t ≤ 18446744073709551615) := ⟨by rw [HX.out, HY.out]; omega⟩
        clear es et
        go_wp2_with (first
          | (go_at_call 60; refine (more_c n n' _).mono ?_; rintro e w' ⟨rfl, rfl⟩; rw [HM.out])
          | (have q1 := f1; go_at_call 52; refine (at_c A' n' c' b B k _ hrb).mono ?_; rintro e w' ⟨rfl, rfl⟩; rw [HY.out]; clear q1 f1)
          | (go_at_call 52; refine (at_c A n c a B k _ hra).mono ?_; rintro e w' ⟨rfl, rfl⟩; rw [HX.out]; have f1 := True.intro)
          | (refine append_abs (by rfl) (.tmp 27) (.tmp 33) 39 (by rfl) w.heap.size 23 .u64 8 Try.underlying39 u64Elem Ao k co o (by rfl) (ho.keep ((Below.refl _ _).alloc (Nat.le_refl _) _)) (wr.heap.size + 1) (some ⟨wr.heap.size, 0, none⟩) 1 1 [t] (by rfl) (Rd.of_has (Has.new wr 23 (vals .u64 [t])) (by omega) (by rfl) (by simp)) (k + 1) (by rfl) (o ++ [t]) (by rfl) (by omega) (by unfold maxLen; omega) (by have := hb.size; simp; omega) ?_
             intro A2 c2 w2 ho2 hb2
             have hbb2 := (hb.alloc hb.size (.cells (vals .u64 [t]) 23)).trans hb2))
        first
          | exact ⟨⟨k + 1, A2, c2, o ++ [t], 1, by omega, by go_num, rfl, rfl, by omega, by omega, ho2, ⟨words_append hI.out.1 (words_one HT.out.2.1 HT.out.2.2), sub_step ho.len hI.out.2 HT.out.1⟩, hbb2⟩, by simp [intOf]; omega⟩
          | (go_roundw
             case rel => exact ⟨k + 1, A2, c2, o ++ [t], 1, by omega, by go_num, rfl, rfl, by omega, by omega, ho2, ⟨words_append hI.out.1 (words_one HT.out.2.1 HT.out.2.2), sub_step ho.len hI.out.2 HT.out.1⟩, hbb2⟩
             case measure => simp [intOf]; omega)
      · have hbo : (x == y) = true := by rw [beq_iff_eq]; exact h1
        rcases Int.lt_or_le cy 1 with h2 | h2
        · have hbc : (cy == 1) = false := by rw [beq_eq_false_iff_ne]; omega
          have HT : Keep (t - 18446744073709551616 * 0 = nth a k - nth b k - cy ∧ 0 ≤ t ∧ t ≤ 18446744073709551615) := ⟨by rw [HX.out, HY.out]; omega⟩
          have hnl : ¬ x < y := by omega
          clear es et h1
          go_wp2_with (first
            | (go_at_call 60; refine (more_c n n' _).mono ?_; rintro e w' ⟨rfl, rfl⟩; rw [HM.out])
            | (have q1 := f1; go_at_call 52; refine (at_c A' n' c' b B k _ hrb).mono ?_; rintro e w' ⟨rfl, rfl⟩; rw [HY.out]; clear q1 f1)
            | (go_at_call 52; refine (at_c A n c a B k _ hra).mono ?_; rintro e w' ⟨rfl, rfl⟩; rw [HX.out]; have f1 := True.intro)
            | (refine append_abs (by rfl) (.tmp 27) (.tmp 33) 39 (by rfl) w.heap.size 23 .u64 8 Try.underlying39 u64Elem Ao k co o (by rfl) (ho.keep ((Below.refl _ _).alloc (Nat.le_refl _) _)) (wr.heap.size + 1) (some ⟨wr.heap.size, 0, none⟩) 1 1 [t] (by rfl) (Rd.of_has (Has.new wr 23 (vals .u64 [t])) (by omega) (by rfl) (by simp)) (k + 1) (by rfl) (o ++ [t]) (by rfl) (by omega) (by unfold maxLen; omega) (by have := hb.size; simp; omega) ?_
               intro A2 c2 w2 ho2 hb2
               have hbb2 := (hb.alloc hb.size (.cells (vals .u64 [t]) 23)).trans hb2))
          first
            | exact ⟨⟨k + 1, A2, c2, o ++ [t], 0, by omega, by go_num, rfl, rfl, by omega, by omega, ho2, ⟨words_append hI.out.1 (words_one HT.out.2.1 HT.out.2.2), sub_step ho.len hI.out.2 HT.out.1⟩, hbb2⟩, by simp [intOf]; omega⟩
            | (go_roundw
               case rel => exact ⟨k + 1, A2, c2, o ++ [t], 0, by omega, by go_num, rfl, rfl, by omega, by omega, ho2, ⟨words_append hI.out.1 (words_one HT.out.2.1 HT.out.2.2), sub_step ho.len hI.out.2 HT.out.1⟩, hbb2⟩
               case measure => simp [intOf]; omega)
        · have hbc : (cy == 1) = true := by rw [beq_iff_eq]; omega
          have HT : Keep (t - 18446744073709551616 * 1 = nth a k - nth b k - cy ∧ 0 ≤ t ∧ t ≤ 18446744073709551615) := ⟨by rw [HX.out, HY.out]; omega⟩
          have hnl : ¬ x < y := by omega
          clear es et h1
          go_wp2_with (first
            | (go_at_call 60; refine (more_c n n' _).mono ?_; rintro e w' ⟨rfl, rfl⟩; rw [HM.out])
            | (have q1 := f1; go_at_call 52; refine (at_c A' n' c' b B k _ hrb).mono ?_; rintro e w' ⟨rfl, rfl⟩; rw [HY.out]; clear q1 f1)
            | (go_at_call 52; refine (at_c A n c a B k _ hra).mono ?_; rintro e w' ⟨rfl, rfl⟩; rw [HX.out]; have f1 := True.intro)
            | (refine append_abs (by rfl) (.tmp 27) (.tmp 33) 39 (by rfl) w.heap.size 23 .u64 8 Try.underlying39 u64Elem Ao k co o (by rfl) (ho.keep ((Below.refl _ _).alloc (Nat.le_refl _) _)) (wr.heap.size + 1) (some ⟨wr.heap.size, 0, none⟩) 1 1 [t] (by rfl) (Rd.of_has (Has.new wr 23 (vals .u64 [t])) (by omega) (by rfl) (by simp)) (k + 1) (by rfl) (o ++ [t]) (by rfl) (by omega) (by unfold maxLen; omega) (by have := hb.size; simp; omega) ?_
               intro A2 c2 w2 ho2 hb2
               have hbb2 := (hb.alloc hb.size (.cells (vals .u64 [t]) 23)).trans hb2))
          first
            | exact ⟨⟨k + 1, A2, c2, o ++ [t], 1, by omega, by go_num, rfl, rfl, by omega, by omega, ho2, ⟨words_append hI.out.1 (words_one HT.out.2.1 HT.out.2.2), sub_step ho.len hI.out.2 HT.out.1⟩, hbb2⟩, by simp [intOf]; omega⟩
            | (go_roundw
               case rel => exact ⟨k + 1, A2, c2, o ++ [t], 1, by omega, by go_num, rfl, rfl, by omega, by omega, ho2, ⟨words_append hI.out.1 (words_one HT.out.2.1 HT.out.2.2), sub_step ho.len hI.out.2 HT.out.1⟩, hbb2⟩
               case measure => simp [intOf]; omega)
      · have hbo : (x == y) = false := by rw [beq_eq_false_iff_ne]; omega
        have HT : Keep (t - 18446744073709551616 * 0 = nth a k - nth b k - cy ∧ 0 ≤ t ∧ t ≤ 18446744073709551615) := ⟨by rw [HX.out, HY.out]; omega⟩
        clear es et
        go_wp2_with (first
          | (go_at_call 60; refine (more_c n n' _).mono ?_; rintro e w' ⟨rfl, rfl⟩; rw [HM.out])
          | (have q1 := f1; go_at_call 52; refine (at_c A' n' c' b B k _ hrb).mono ?_; rintro e w' ⟨rfl, rfl⟩; rw [HY.out]; clear q1 f1)
          | (go_at_call 52; refine (at_c A n c a B k _ hra).mono ?_; rintro e w' ⟨rfl, rfl⟩; rw [HX.out]; have f1 := True.intro)
          | (refine append_abs (by rfl) (.tmp 27) (.tmp 33) 39 (by rfl) w.heap.size 23 .u64 8 Try.underlying39 u64Elem Ao k co o (by rfl) (ho.keep ((Below.refl _ _).alloc (Nat.le_refl _) _)) (wr.heap.size + 1) (some ⟨wr.heap.size, 0, none⟩) 1 1 [t] (by rfl) (Rd.of_has (Has.new wr 23 (vals .u64 [t])) (by omega) (by rfl) (by simp)) (k + 1) (by rfl) (o ++ [t]) (by rfl) (by omega) (by unfold maxLen; omega) (by have := hb.size; simp; omega) ?_
             intro A2 c2 w2 ho2 hb2
             have hbb2 := (hb.alloc hb.size (.cells (vals .u64 [t]) 23)).trans hb2))
        first
          | exact ⟨⟨k + 1, A2, c2, o ++ [t], 0, by omega, by go_num, rfl, rfl, by omega, by omega, ho2, ⟨words_append hI.out.1 (words_one HT.out.2.1 HT.out.2.2), sub_step ho.len hI.out.2 HT.out.1⟩, hbb2⟩, by simp [intOf]; omega⟩
          | (go_roundw
             case rel => exact ⟨k + 1, A2, c2, o ++ [t], 0, by omega, by go_num, rfl, rfl, by omega, by omega, ho2, ⟨words_append hI.out.1 (words_one HT.out.2.1 HT.out.2.2), sub_step ho.len hI.out.2 HT.out.1⟩, hbb2⟩
             case measure => simp [intOf]; omega)
    · obtain rfl : k = M := by omega
      have he := sub_end LN.out LN'.out HM.out hI.out.1 ho.len (by omega) hI.out.2
      rw [he.1] at ho
      go_wp2_with (go_at_call 60; refine (more_c n n' _).mono ?_; rintro e w' ⟨rfl, rfl⟩; rw [HM.out])
      go_ret2
      exact ⟨Ao, co, rfl, ho, hb⟩
end Go.Proofs.Ythaoebamnlmfpaa.Limb
