/-
  Own text. The contracts of package limb: a word of a place, sums and differences word by word.
-/
import Derived.Test.YtajiinecicghkaaDoorMLimbR
import Derived.Test.YtajiinecicghkaaDoorBits
namespace Go.Proofs.YtajiinecicghkaaDoor.Limb
open Go Go.RowKit Go.Proofs.YtajiinecicghkaaDoor.Reg Go.Proofs.YtajiinecicghkaaDoor.Base Go.Proofs.YtajiinecicghkaaDoor.Bits

theorem wordAt_c (A : Option Addr) (n c : Nat) (l : List Int) (B : Nat) (k : Nat) (w : World) (hr : Rd w B A n .u64 l) : Calls Tryd.prog 80 #[.slice A n c, .int .i64 (k : Int)] w fun e w' => e = .returned (.int .u64 (nth l k)) ∧ w = w' := by
  rcases Nat.lt_or_ge k n with h | h
  · obtain ⟨b1, o1, rfl, hlb1, hc1⟩ := hr.at_ (by omega)
    have hcell := hc1 k h
    go_enter Tryd.func80, Tryd.ntmps80
    go_wp2
    go_ret
    exact ⟨rfl, rfl⟩
  · have e1 : nth l k = 0 := nth_ge (by rw [hr.len]; exact h)
    rw [e1]
    go_enter Tryd.func80, Tryd.ntmps80
    go_wp2
    go_ret
    exact ⟨rfl, rfl⟩

set_option maxRecDepth 100000 in
set_option maxHeartbeats 1000000 in
theorem nextAdd_c (x y cy : Int) (hx0 : 0 ≤ x) (hy0 : 0 ≤ y) (hc0 : 0 ≤ cy) (hc1 : cy ≤ 1) (g g' : Nat) (w : World) (hj : Has w g 69 #[.func (.func 52) #[] #[]]) (hc : Has w g' 23 (vals .u64 [cy])) :
    Calls Tryd.prog 79 #[.int .u64 x, .int .u64 y, .pointer (some ⟨g, 0, none⟩), .pointer (some ⟨g', 0, none⟩)] w fun e w' => e = .returned (.int .u64 ((x + y + cy) % 18446744073709551616)) ∧ Has w' g' 23 (vals .u64 [(x + y + cy) / 18446744073709551616]) ∧ (∀ g1 t1 cs1, Has w g1 t1 cs1 → g1 ≠ g' → Has w' g1 t1 cs1) ∧ Below g' w w' := by
  have hadd := addc_run x y cy hx0 hy0 hc0 hc1
  obtain ⟨u, hu⟩ : ∃ u, (x + y + cy) % 18446744073709551616 = u := ⟨_, rfl⟩
  obtain ⟨v, hv⟩ : ∃ v, (x + y + cy) / 18446744073709551616 = v := ⟨_, rfl⟩
  rw [hu, hv] at hadd
  rw [hu, hv]
  clear hu hv
  have c1 := hj.cell 0
  have c2 := hc.val (i := 0) (by simp)
  have z2 := hc.frozen 0
  have h4 := hc.set_ 0 (.int .u64 v)
  have h5 : ∀ g1 t1 cs1, Has w g1 t1 cs1 → g1 ≠ g' → Has (w.setCell ⟨g', 0, none⟩ (.int .u64 v)) g1 t1 cs1 := fun g1 t1 cs1 h hne => h.far hne _
  have h6 : Below g' w (w.setCell ⟨g', 0, none⟩ (.int .u64 v)) := (Below.refl g' w).setCell (p := ⟨g', 0, none⟩) (Nat.le_refl g') _
  have H5 : Keep _ := ⟨h5⟩
  clear hj hc h5
  simp only [nth, List.getD_cons_zero, List.getElem?_toArray, List.getElem?_cons_zero] at c1 c2
  go_enter Tryd.func79, Tryd.ntmps79
  go_wp2
  go_ret
  exact ⟨rfl, h4, H5.out, h6⟩
set_option maxRecDepth 100000 in
set_option maxHeartbeats 2000000 in
theorem byAdd_lt (A : Option Addr) (n c : Nat) (a : List Int) (A' : Option Addr) (n' c' : Nat) (b : List Int) (B : Nat) (w : World) (hr : Rd w B A n .u64 a) (hwa : Words a) (hr' : Rd w B A' n' .u64 b) (hwb : Words b) (hB : B ≤ w.heap.size) (hn : n ≤ 10000) (hn' : n' ≤ 10000) (hcmp : n < n') (M : Nat) (hM : max n n' = M) :
    Calls Tryd.prog 51 #[.slice A n c, .slice A' n' c', .func (.func 52) #[] #[]] w fun e w' => e = .returned (.tuple #[.slice (some ⟨w.heap.size + 2, 0, none⟩) (max n n') (max n n'), .int .u64 (addC a b)]) ∧ Has w' (w.heap.size + 2) 23 (vals .u64 (addL a b)) ∧ Below w.heap.size w w' := by
  have LN : Keep _ := ⟨hr.len⟩
  have LN' : Keep _ := ⟨hr'.len⟩
  have WA : Keep _ := ⟨hwa⟩
  have WB : Keep _ := ⟨hwb⟩
  have HM : Keep _ := ⟨hM⟩
  have hMb : M ≤ 10000 := by omega
  have hmk : ∀ w, (Instr.makeSlice 35 (.int .i64 M) (.int .i64 M)).run Tryd.prog w = .ok (.slice (some ⟨w.heap.size, 0, none⟩) M M) (w.alloc (.cells (vals .u64 (List.replicate M 0)) 23)) := fun w => run_make_vals w _ _ .u64 Tryd.underlying35 u64Elem .i64 .i64 M (by omega) (by omega)
  obtain rfl : n' = M := by omega
  rw [hM]
  clear hwa hwb hM
  obtain ⟨S, hS⟩ : ∃ S, w.heap.size = S := ⟨_, rfl⟩
  obtain ⟨w1, hw1⟩ : ∃ w1, w.alloc (.cells #[.func (.func 52) #[] #[]] 69) = w1 := ⟨_, rfl⟩
  obtain ⟨w2, hw2⟩ : ∃ w2, w1.alloc (.cells #[.int .u64 0] 23) = w2 := ⟨_, rfl⟩
  obtain ⟨w3, hw3⟩ : ∃ w3, w2.alloc (.cells (vals .u64 (List.replicate n' 0)) 23) = w3 := ⟨_, rfl⟩
  have hs1 : w1.heap.size = S + 1 := by rw [← hw1, World.size_alloc, hS]
  have hs2 : w2.heap.size = S + 2 := by rw [← hw2, World.size_alloc, hs1]
  have hJ : Has w3 S 69 #[.func (.func 52) #[] #[]] := by rw [← hw3, ← hw2, ← hw1]; exact ((Has.new' _ hS.symm _ _).alloc _).alloc _
  have hC : Has w3 (S + 1) 23 (vals .u64 [0]) := by rw [← hw3, ← hw2]; exact (Has.new' _ hs1.symm _ _).alloc _
  have hD : Has w3 (S + 2) 23 (vals .u64 (List.replicate n' 0)) := by rw [← hw3]; exact Has.new' _ hs2.symm _ _
  have hb : Below S w w3 := by rw [← hw3, ← hw2, ← hw1]; exact (((Below.refl _ _).alloc (by omega) _).alloc (by simp; omega) _).alloc (by simp; omega) _
  rw [← padTo_nil] at hD
  have HS : Keep _ := ⟨hS⟩
  rw [hS] at hB
  go_enter Tryd.func51, Tryd.ntmps51
  go_wp2
  go_loopw [21] (fun vi wr => ∃ (k : Nat) (o : List Int) (cy : Int), k ≤ n' ∧ vi = .int .i64 k ∧ 0 ≤ cy ∧ cy ≤ 1 ∧ Has wr S 69 #[.func (.func 52) #[] #[]] ∧ Has wr (S + 1) 23 (vals .u64 [cy]) ∧ Has wr (S + 2) 23 (vals .u64 (padTo n' o)) ∧ Keep (Words o ∧ o.length = k ∧ num o + wp k * cy = low a k + low b k) ∧ Below S w wr) (fun vi _ => n' - (intOf vi).toNat)
  case atStart => exact ⟨0, [], 0, Nat.zero_le _, rfl, by omega, by omega, hJ, hC, hD, ⟨words_nil, rfl, by simp [num_nil, low_zero]⟩, hb⟩
  case round =>
    clear hJ hC hD hb hw1 hw2 hw3 hs1 hs2 hmk
    obtain ⟨k, o, cy, hk, rfl, hc0, hc1, hJ, hC, hD, hI, hb⟩ := hrel
    by_cases hlt : k < n'
    · have hra := hr.keep hb hB
      have hrb := hr'.keep hb hB
      obtain ⟨x, hx⟩ : ∃ x, nth a k = x := ⟨_, rfl⟩
      obtain ⟨y, hy⟩ : ∃ y, nth b k = y := ⟨_, rfl⟩
      have bx : 0 ≤ x ∧ x ≤ 18446744073709551615 := hx ▸ WA.out k
      have by' : 0 ≤ y ∧ y ≤ 18446744073709551615 := hy ▸ WB.out k
      have HX : Keep _ := ⟨hx⟩
      have HY : Keep _ := ⟨hy⟩
      clear hx hy
      obtain ⟨t, ht⟩ : ∃ t, (x + y + cy) % 18446744073709551616 = t := ⟨_, rfl⟩
      obtain ⟨nx, hnx⟩ : ∃ nx, (x + y + cy) / 18446744073709551616 = nx := ⟨_, rfl⟩
      have HT : Keep (t + 18446744073709551616 * nx = nth a k + nth b k + cy ∧ 0 ≤ t ∧ t ≤ 18446744073709551615 ∧ 0 ≤ nx ∧ nx ≤ 1) := ⟨by rw [HX.out, HY.out]; omega⟩
      have HN := fun (w : World) hj hc => nextAdd_c x y cy bx.1 by'.1 hc0 hc1 S (S + 1) w hj hc
      rw [ht, hnx] at HN
      have HN' : Keep _ := ⟨HN⟩
      clear HN ht hnx
      go_wp2_with (first
        | (go_at_call 79
           refine (HN'.out _ hJ hC).mono ?_
           rintro e w2 ⟨rfl, hC2, hfar, hb2⟩
           have hJ2 := hfar _ _ _ hJ (by omega)
           have hD2 := hfar _ _ _ hD (by omega)
           have hbb2 := hb.trans (hb2.mono (by omega))
           have c0 := hD2.val (i := k) (by rw [padTo_len (by have := hI.out.2.1; omega)]; exact hlt)
           have z0 := hD2.frozen k
           clear hJ hC hD hfar hb2)
        | (have q1 := f1; go_at_call 80; refine (wordAt_c A' n' c' b B k _ hrb).mono ?_; rintro e w' ⟨rfl, rfl⟩; rw [HY.out]; clear q1 f1)
        | (go_at_call 80; refine (wordAt_c A n c a B k _ hra).mono ?_; rintro e w' ⟨rfl, rfl⟩; rw [HX.out]; have f1 := True.intro))
      go_roundw
      case rel =>
        have h4 := hD2.set_ k (.int .u64 t)
        rw [vals_set, padTo_set' hI.out.2.1 hlt] at h4
        exact ⟨k + 1, o ++ [t], nx, by omega, by go_num, HT.out.2.2.2.1, HT.out.2.2.2.2, hJ2.far (p := ⟨S + 2, k, none⟩) (by show S ≠ S + 2; omega) _, hC2.far (p := ⟨S + 2, k, none⟩) (by show S + 1 ≠ S + 2; omega) _, h4, ⟨words_append hI.out.1 (words_one HT.out.2.1 HT.out.2.2.1), by rw [List.length_append, hI.out.2.1]; rfl, add_step hI.out.2.1 hI.out.2.2 HT.out.1⟩, hbb2.setCell (p := ⟨S + 2, k, none⟩) (by show S ≤ S + 2; omega) _⟩
      case measure => simp [intOf]; omega
    · have ek : k = n' := by omega
      subst ek
      have hE := add_end LN.out LN'.out HM.out hI.out.1 hI.out.2.1 hI.out.2.2
      rw [padTo_full hI.out.2.1, hE.1] at hD
      rw [hE.2] at hC
      have HE2 : Keep _ := ⟨hE.2⟩
      clear hE hc0 hc1
      go_wp2
      refine wp_fam_all (by kernel_rfl) (by kernel_rfl) (fun I hI' fw hf hback => ?_)
      have c1 : ∀ j, (fw j).cell? ⟨S + 1, 0, none⟩ = some (.int .u64 (addC a b)) := fun j => (hC.keep (hf j)).val (i := 0) (by simp)
      repeat (go_big_quiet_step (fail))
      refine wpQuiet_nil ?_
      intro w6 hb6
      clear c1 hf hback
      go_wp2
      go_ret2
      exact ⟨by rw [HS.out]; rfl, by rw [HS.out]; exact hD.keep hb6, by rw [HS.out]; exact hb.trans (hb6.mono (by have := hb.size; have := HS.out; omega))⟩

set_option maxRecDepth 100000 in
set_option maxHeartbeats 2000000 in
theorem byAdd_ge (A : Option Addr) (n c : Nat) (a : List Int) (A' : Option Addr) (n' c' : Nat) (b : List Int) (B : Nat) (w : World) (hr : Rd w B A n .u64 a) (hwa : Words a) (hr' : Rd w B A' n' .u64 b) (hwb : Words b) (hB : B ≤ w.heap.size) (hn : n ≤ 10000) (hn' : n' ≤ 10000) (hcmp : ¬ n < n') (M : Nat) (hM : max n n' = M) :
    Calls Tryd.prog 51 #[.slice A n c, .slice A' n' c', .func (.func 52) #[] #[]] w fun e w' => e = .returned (.tuple #[.slice (some ⟨w.heap.size + 2, 0, none⟩) (max n n') (max n n'), .int .u64 (addC a b)]) ∧ Has w' (w.heap.size + 2) 23 (vals .u64 (addL a b)) ∧ Below w.heap.size w w' := by
  have LN : Keep _ := ⟨hr.len⟩
  have LN' : Keep _ := ⟨hr'.len⟩
  have WA : Keep _ := ⟨hwa⟩
  have WB : Keep _ := ⟨hwb⟩
  have HM : Keep _ := ⟨hM⟩
  have hMb : M ≤ 10000 := by omega
  have hmk : ∀ w, (Instr.makeSlice 35 (.int .i64 M) (.int .i64 M)).run Tryd.prog w = .ok (.slice (some ⟨w.heap.size, 0, none⟩) M M) (w.alloc (.cells (vals .u64 (List.replicate M 0)) 23)) := fun w => run_make_vals w _ _ .u64 Tryd.underlying35 u64Elem .i64 .i64 M (by omega) (by omega)
  obtain rfl : n = M := by omega
  rw [hM]
  clear hwa hwb hM
  obtain ⟨S, hS⟩ : ∃ S, w.heap.size = S := ⟨_, rfl⟩
  obtain ⟨w1, hw1⟩ : ∃ w1, w.alloc (.cells #[.func (.func 52) #[] #[]] 69) = w1 := ⟨_, rfl⟩
  obtain ⟨w2, hw2⟩ : ∃ w2, w1.alloc (.cells #[.int .u64 0] 23) = w2 := ⟨_, rfl⟩
  obtain ⟨w3, hw3⟩ : ∃ w3, w2.alloc (.cells (vals .u64 (List.replicate n 0)) 23) = w3 := ⟨_, rfl⟩
  have hs1 : w1.heap.size = S + 1 := by rw [← hw1, World.size_alloc, hS]
  have hs2 : w2.heap.size = S + 2 := by rw [← hw2, World.size_alloc, hs1]
  have hJ : Has w3 S 69 #[.func (.func 52) #[] #[]] := by rw [← hw3, ← hw2, ← hw1]; exact ((Has.new' _ hS.symm _ _).alloc _).alloc _
  have hC : Has w3 (S + 1) 23 (vals .u64 [0]) := by rw [← hw3, ← hw2]; exact (Has.new' _ hs1.symm _ _).alloc _
  have hD : Has w3 (S + 2) 23 (vals .u64 (List.replicate n 0)) := by rw [← hw3]; exact Has.new' _ hs2.symm _ _
  have hb : Below S w w3 := by rw [← hw3, ← hw2, ← hw1]; exact (((Below.refl _ _).alloc (by omega) _).alloc (by simp; omega) _).alloc (by simp; omega) _
  rw [← padTo_nil] at hD
  have HS : Keep _ := ⟨hS⟩
  rw [hS] at hB
  go_enter Tryd.func51, Tryd.ntmps51
  go_wp2
  go_loopw [21] (fun vi wr => ∃ (k : Nat) (o : List Int) (cy : Int), k ≤ n ∧ vi = .int .i64 k ∧ 0 ≤ cy ∧ cy ≤ 1 ∧ Has wr S 69 #[.func (.func 52) #[] #[]] ∧ Has wr (S + 1) 23 (vals .u64 [cy]) ∧ Has wr (S + 2) 23 (vals .u64 (padTo n o)) ∧ Keep (Words o ∧ o.length = k ∧ num o + wp k * cy = low a k + low b k) ∧ Below S w wr) (fun vi _ => n - (intOf vi).toNat)
  case atStart => exact ⟨0, [], 0, Nat.zero_le _, rfl, by omega, by omega, hJ, hC, hD, ⟨words_nil, rfl, by simp [num_nil, low_zero]⟩, hb⟩
  case round =>
    clear hJ hC hD hb hw1 hw2 hw3 hs1 hs2 hmk
    obtain ⟨k, o, cy, hk, rfl, hc0, hc1, hJ, hC, hD, hI, hb⟩ := hrel
    by_cases hlt : k < n
    · have hra := hr.keep hb hB
      have hrb := hr'.keep hb hB
      obtain ⟨x, hx⟩ : ∃ x, nth a k = x := ⟨_, rfl⟩
      obtain ⟨y, hy⟩ : ∃ y, nth b k = y := ⟨_, rfl⟩
      have bx : 0 ≤ x ∧ x ≤ 18446744073709551615 := hx ▸ WA.out k
      have by' : 0 ≤ y ∧ y ≤ 18446744073709551615 := hy ▸ WB.out k
      have HX : Keep _ := ⟨hx⟩
      have HY : Keep _ := ⟨hy⟩
      clear hx hy
      obtain ⟨t, ht⟩ : ∃ t, (x + y + cy) % 18446744073709551616 = t := ⟨_, rfl⟩
      obtain ⟨nx, hnx⟩ : ∃ nx, (x + y + cy) / 18446744073709551616 = nx := ⟨_, rfl⟩
      have HT : Keep (t + 18446744073709551616 * nx = nth a k + nth b k + cy ∧ 0 ≤ t ∧ t ≤ 18446744073709551615 ∧ 0 ≤ nx ∧ nx ≤ 1) := ⟨by rw [HX.out, HY.out]; omega⟩
      have HN := fun (w : World) hj hc => nextAdd_c x y cy bx.1 by'.1 hc0 hc1 S (S + 1) w hj hc
      rw [ht, hnx] at HN
      have HN' : Keep _ := ⟨HN⟩
      clear HN ht hnx
      go_wp2_with (first
        | (go_at_call 79
           refine (HN'.out _ hJ hC).mono ?_
           rintro e w2 ⟨rfl, hC2, hfar, hb2⟩
           have hJ2 := hfar _ _ _ hJ (by omega)
           have hD2 := hfar _ _ _ hD (by omega)
           have hbb2 := hb.trans (hb2.mono (by omega))
           have c0 := hD2.val (i := k) (by rw [padTo_len (by have := hI.out.2.1; omega)]; exact hlt)
           have z0 := hD2.frozen k
           clear hJ hC hD hfar hb2)
        | (have q1 := f1; go_at_call 80; refine (wordAt_c A' n' c' b B k _ hrb).mono ?_; rintro e w' ⟨rfl, rfl⟩; rw [HY.out]; clear q1 f1)
        | (go_at_call 80; refine (wordAt_c A n c a B k _ hra).mono ?_; rintro e w' ⟨rfl, rfl⟩; rw [HX.out]; have f1 := True.intro))
      go_roundw
      case rel =>
        have h4 := hD2.set_ k (.int .u64 t)
        rw [vals_set, padTo_set' hI.out.2.1 hlt] at h4
        exact ⟨k + 1, o ++ [t], nx, by omega, by go_num, HT.out.2.2.2.1, HT.out.2.2.2.2, hJ2.far (p := ⟨S + 2, k, none⟩) (by show S ≠ S + 2; omega) _, hC2.far (p := ⟨S + 2, k, none⟩) (by show S + 1 ≠ S + 2; omega) _, h4, ⟨words_append hI.out.1 (words_one HT.out.2.1 HT.out.2.2.1), by rw [List.length_append, hI.out.2.1]; rfl, add_step hI.out.2.1 hI.out.2.2 HT.out.1⟩, hbb2.setCell (p := ⟨S + 2, k, none⟩) (by show S ≤ S + 2; omega) _⟩
      case measure => simp [intOf]; omega
    · have ek : k = n := by omega
      subst ek
      have hE := add_end LN.out LN'.out HM.out hI.out.1 hI.out.2.1 hI.out.2.2
      rw [padTo_full hI.out.2.1, hE.1] at hD
      rw [hE.2] at hC
      have HE2 : Keep _ := ⟨hE.2⟩
      clear hE hc0 hc1
      go_wp2
      refine wp_fam_all (by kernel_rfl) (by kernel_rfl) (fun I hI' fw hf hback => ?_)
      have c1 : ∀ j, (fw j).cell? ⟨S + 1, 0, none⟩ = some (.int .u64 (addC a b)) := fun j => (hC.keep (hf j)).val (i := 0) (by simp)
      repeat (go_big_quiet_step (fail))
      refine wpQuiet_nil ?_
      intro w6 hb6
      clear c1 hf hback
      go_wp2
      go_ret2
      exact ⟨by rw [HS.out]; rfl, by rw [HS.out]; exact hD.keep hb6, by rw [HS.out]; exact hb.trans (hb6.mono (by have := hb.size; have := HS.out; omega))⟩

theorem byAdd_c (A : Option Addr) (n c : Nat) (a : List Int) (A' : Option Addr) (n' c' : Nat) (b : List Int) (B : Nat) (w : World) (hr : Rd w B A n .u64 a) (hwa : Words a) (hr' : Rd w B A' n' .u64 b) (hwb : Words b) (hB : B ≤ w.heap.size) (hn : n ≤ 10000) (hn' : n' ≤ 10000) :
    Calls Tryd.prog 51 #[.slice A n c, .slice A' n' c', .func (.func 52) #[] #[]] w fun e w' => e = .returned (.tuple #[.slice (some ⟨w.heap.size + 2, 0, none⟩) (max n n') (max n n'), .int .u64 (addC a b)]) ∧ Has w' (w.heap.size + 2) 23 (vals .u64 (addL a b)) ∧ Below w.heap.size w w' := by
  by_cases h : n < n'
  · exact byAdd_lt A n c a A' n' c' b B w hr hwa hr' hwb hB hn hn' h _ rfl
  · exact byAdd_ge A n c a A' n' c' b B w hr hwa hr' hwb hB hn hn' h _ rfl

set_option maxRecDepth 100000 in
set_option maxHeartbeats 1000000 in
theorem add_c (A : Option Addr) (n c : Nat) (a : List Int) (A' : Option Addr) (n' c' : Nat) (b : List Int) (B : Nat) (w : World) (hr : Rd w B A n .u64 a) (hwa : Words a) (hr' : Rd w B A' n' .u64 b) (hwb : Words b) (hB : B ≤ w.heap.size) (hn : n ≤ 10000) (hn' : n' ≤ 10000) :
    Calls Tryd.prog 27 #[.slice A n c, .slice A' n' c'] w fun e w' => ∃ A'' c'', e = .returned (.tuple #[.slice A'' (max n n') c'', .int .u64 (addC a b)]) ∧ Frs w' w.heap.size A'' (max n n') .u64 (addL a b) ∧ Below w.heap.size w w' := by
  have HL : Keep ((addL a b).length = max n n') := ⟨by rw [addL, wd_len, hr.len, hr'.len]⟩
  obtain ⟨M, hM⟩ : ∃ M, max n n' = M := ⟨_, rfl⟩
  have HM : Keep _ := ⟨hM⟩
  have hMb : M ≤ 10000 := by omega
  rw [hM]
  clear hM
  go_enter Tryd.func27, Tryd.ntmps27
  go_wp2_with (go_at_call 51; refine (byAdd_c A n c a A' n' c' b B w hr hwa hr' hwb hB hn hn').mono ?_; rintro e w1 ⟨rfl, hD1, hb1⟩; rw [HM.out])
  go_ret2
  refine ⟨some ⟨w.heap.size + 2, 0, none⟩, M, rfl, ?_, hb1⟩
  have := Own.of_has (base := w.heap.size) hD1 (by omega) (by rw [HL.out, HM.out]; unfold maxLen; omega)
  rw [HL.out, HM.out] at this
  exact Frs.of_own this

end Go.Proofs.YtajiinecicghkaaDoor.Limb
