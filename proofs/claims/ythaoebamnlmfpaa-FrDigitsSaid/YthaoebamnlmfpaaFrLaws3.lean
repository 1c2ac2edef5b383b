/-
  Own text. The walks of layer 6's statements: digits.
-/
import Derived.Test.YthaoebamnlmfpaaFrLaws2
namespace Go.Proofs.Ythaoebamnlmfpaa.Fr
set_option linter.unusedVariables false
set_option linter.unusedSimpArgs false
open Go Go.RowKit Go.Proofs.Ythaoebamnlmfpaa.Num Go.Proofs.Ythaoebamnlmfpaa.Reg Go.Proofs.Ythaoebamnlmfpaa.Base Go.Proofs.Ythaoebamnlmfpaa.Limb Go.Proofs.Ythaoebamnlmfpaa.Bits

set_option maxRecDepth 100000 in
set_option maxHeartbeats 2000000 in
theorem mulOwn_c (A : Option Addr) (n c : Nat) (a : List Int) (A' : Option Addr) (n' c' : Nat) (b : List Int) (B : Nat) (w : World) (hr : Rd w B A n .u64 a) (hwa : Words a) (hr' : Rd w B A' n' .u64 b) (hwb : Words b) (hB : B ≤ w.heap.size) (hn : n ≤ 10000) (hn' : n' ≤ 10000) :
    Calls Try.prog 33 #[.slice A n c, .slice A' n' c'] w fun e w' => ∃ A'' c'', e = .returned (.slice A'' (n + n') c'') ∧ Own w' w.heap.size 23 .u64 A'' (n + n') c'' (wd (n + n') (num a * num b)) ∧ Below w.heap.size w w' := by
  have LN : Keep _ := ⟨hr.len⟩
  have LN' : Keep _ := ⟨hr'.len⟩
  have WA : Keep _ := ⟨hwa⟩
  have WB : Keep _ := ⟨hwb⟩
  obtain ⟨L, hL⟩ : ∃ L, n + n' = L := ⟨_, rfl⟩
  have HL : Keep _ := ⟨hL⟩
  have hLi : (n : Int) + (n' : Int) = (L : Int) := by omega
  have hLb : L ≤ 20000 := by omega
  have hmk : ∀ w, (Instr.makeSlice 39 (.int .i64 L) (.int .i64 L)).run Try.prog w = .ok (.slice (some ⟨w.heap.size, 0, none⟩) L L) (w.alloc (.cells (vals .u64 (List.replicate L 0)) 23)) := fun w => run_make_vals w _ _ .u64 Try.underlying39 u64Elem .i64 .i64 L (by omega) (by omega)
  rw [hL]
  have HB0 : List.replicate L 0 = wd L (low a 0 * num b) := by
    have h0 := wd_num (n := L) (words_zeros L) (by simp)
    rw [num_zeros] at h0
    rw [low_zero, Int.zero_mul]
    exact h0.symm
  clear hwa hwb hL
  obtain ⟨S, hS⟩ : ∃ S, w.heap.size = S := ⟨_, rfl⟩
  have hb0 : Below S w (w.alloc (.cells (vals .u64 (List.replicate L 0)) 23)) := (Below.refl _ _).alloc (by omega) _
  have hD0 : Has (w.alloc (.cells (vals .u64 (List.replicate L 0)) 23)) S 23 (vals .u64 (wd L (low a 0 * num b))) := by rw [← HB0]; exact Has.new' _ hS.symm _ _
  clear HB0
  have HS : Keep _ := ⟨hS⟩
  rw [hS] at hB
  go_enter Try.func33, Try.ntmps33
  go_wp2
  go_loopw [16] (fun vi wr => ∃ k : Nat, k ≤ n ∧ vi = .int .i64 k ∧ Has wr S 23 (vals .u64 (wd L (low a k * num b))) ∧ Below S w wr) (fun vi _ => n - (intOf vi).toNat)
  case atStart => exact ⟨0, Nat.zero_le _, rfl, hD0, hb0⟩
  case round =>
    clear hD0 hb0 hmk
    obtain ⟨k, hk, rfl, hD, hb⟩ := hrel
    by_cases hlt : k < n
    · obtain ⟨b1, o1, rfl, hlb1, hcs1⟩ := hr.at_ (by omega)
      obtain ⟨x, hx⟩ : ∃ x, nth a k = x := ⟨_, rfl⟩
      have bx : 0 ≤ x ∧ x ≤ 18446744073709551615 := hx ▸ WA.out k
      have hrb := hr'.keep hb hB
      have ca : wr.cell? ⟨b1, o1 + k, none⟩ = some (.int .u64 x) := (hb.cell (p := ⟨b1, o1 + k, none⟩) (by show b1 < S; omega)).trans (by rw [hcs1 k hlt, hx])
      have HX : Keep _ := ⟨hx⟩
      obtain ⟨l, hl⟩ : ∃ l, wd L (low a k * num b) = l := ⟨_, rfl⟩
      have HLL : Keep (l = wd (n + n') (low a k * num b)) := ⟨by rw [← hl, HL.out]⟩
      have WL : Keep (Words l ∧ l.length = L) := ⟨by rw [← hl]; exact ⟨wd_words _ _, wd_len _ _⟩⟩
      rw [hl] at hD
      clear hx hcs1 hl
      go_wp2_with (go_at_call 53
                   refine (addTimes_c S k n' _ (some ⟨S, k, none⟩) l A' c' b x B wr hD WL.out.1 (by have := WL.out.2; omega) (fun _ => rfl) hrb WB.out hB bx.1 bx.2 hn').mono ?_
                   rintro e w2 ⟨cy, o, rfl, hc0, hc1, hD2, hwo, hlo, hE, hon⟩
                   have hbb2 := hb.trans (hon.below (Nat.le_refl S) (by have := hb.size; have := HS.out; omega))
                   have HE : Keep _ := ⟨hE⟩
                   have HO : Keep (Words o ∧ o.length = n') := ⟨hwo, hlo⟩
                   have hkl : k + n' < L := by have := HL.out; omega
                   have c0 := hD2.val (i := k + n') (by rw [mid_len hlo (by have := WL.out.2; omega)]; have := WL.out.2; omega)
                   have z0 := hD2.frozen (k + n')
                   clear hD hE hb hon hrb hwo hlo)
      have h4 := hD2.set_ (k + n') (.int .u64 cy)
      rw [vals_set, row_step WA.out WB.out LN.out LN'.out hlt HLL.out HO.out.1 HO.out.2 hc0 hc1 (by rw [HX.out]; exact HE.out), HL.out] at h4
      have hb4 := hbb2.setCell (p := ⟨S, k + n', none⟩) (Nat.le_refl _) (.int .u64 cy)
      first
        | exact ⟨⟨k + 1, by omega, by go_num, h4, hb4⟩, by simp [intOf]; omega⟩
        | (go_roundw
           case rel => exact ⟨k + 1, by omega, by go_num, h4, hb4⟩
           case measure => simp [intOf]; omega)
    · obtain rfl : k = n := by omega
      rw [show low a k = num a by rw [← LN.out]; rfl] at hD
      go_wp2
      go_ret
      refine ⟨some ⟨S, 0, none⟩, L, rfl, ?_, by rw [HS.out]; exact hb⟩
      have := Own.of_has (base := w.heap.size) hD (by have := HS.out; omega) (by rw [wd_len]; unfold maxLen; omega)
      rw [wd_len] at this
      exact this

set_option maxRecDepth 100000 in
set_option maxHeartbeats 4000000 in
theorem digits_big (A : Option Addr) (n c : Nat) (l : List Int) (w : World) (v : Int) (hn : 12 < n) : Calls Try.prog 9 #[.slice A n c, .int .i64 v] w fun e w' => e = .returned (.bool true) ∧ Below w.heap.size w w' := by
  obtain ⟨S, hS⟩ : ∃ S, w.heap.size = S := ⟨_, rfl⟩
  have hsz0 : w.heap.size = S + 0 := hS
  have hb0 : Below S w w := Below.refl _ _
  have HSS : Keep (∀ x : World, Below S w x → S ≤ x.heap.size) := ⟨fun x hb => by have := hb.size; omega⟩
  rw [hS]
  go_enter Try.func9, Try.ntmps9
  go_wp2_with (first
    | (have hq0 := hb0
       clear hq0
       go_at_call 11
       refine (awake_c _).mono ?_
       rintro e w1 ⟨rfl, hq⟩
       have hb1 := hb0.trans (hq.mono (HSS.out _ hb0))
       clear hq hb0 ))
  go_ret
  exact ⟨rfl, hb1⟩

set_option maxRecDepth 100000 in
set_option maxHeartbeats 4000000 in
theorem digits_no_ (A : Option Addr) (n c : Nat) (l : List Int) (w : World) (v : Int) (hv : v < 2 ∨ 8 < v) (hn : n ≤ 12) : Calls Try.prog 9 #[.slice A n c, .int .i64 v] w fun e w' => e = .returned (.bool true) ∧ Below w.heap.size w w' := by
  rcases hv with hv | hv
  · have P1 : Keep (∀ x : World, _) := ⟨fun x => frWindows_no A n c v x (.inl hv)⟩
    obtain ⟨S, hS⟩ : ∃ S, w.heap.size = S := ⟨_, rfl⟩
    have hsz0 : w.heap.size = S + 0 := hS
    have hb0 : Below S w w := Below.refl _ _
    have HSS : Keep (∀ x : World, Below S w x → S ≤ x.heap.size) := ⟨fun x hb => by have := hb.size; omega⟩
    rw [hS]
    go_enter Try.func9, Try.ntmps9
    go_wp2_with (first
      | (have hq0 := hb1
         clear hq0
         go_at_call 30
         refine (P1.out _).mono ?_
         rintro e w2 ⟨rfl, hq⟩
         have hb2 := hb1.trans (hq.mono (HSS.out _ hb1))
         clear hq hb1 )
      | (have hq0 := hb0
         clear hq0
         go_at_call 11
         refine (awake_c _).mono ?_
         rintro e w1 ⟨rfl, hq⟩
         have hb1 := hb0.trans (hq.mono (HSS.out _ hb0))
         clear hq hb0 ))
    go_ret
    exact ⟨rfl, hb2⟩
  · have P1 : Keep (∀ x : World, _) := ⟨fun x => frWindows_no A n c v x (.inr hv)⟩
    obtain ⟨S, hS⟩ : ∃ S, w.heap.size = S := ⟨_, rfl⟩
    have hsz0 : w.heap.size = S + 0 := hS
    have hb0 : Below S w w := Below.refl _ _
    have HSS : Keep (∀ x : World, Below S w x → S ≤ x.heap.size) := ⟨fun x hb => by have := hb.size; omega⟩
    rw [hS]
    go_enter Try.func9, Try.ntmps9
    go_wp2_with (first
      | (have hq0 := hb1
         clear hq0
         go_at_call 30
         refine (P1.out _).mono ?_
         rintro e w2 ⟨rfl, hq⟩
         have hb2 := hb1.trans (hq.mono (HSS.out _ hb1))
         clear hq hb1 )
      | (have hq0 := hb0
         clear hq0
         go_at_call 11
         refine (awake_c _).mono ?_
         rintro e w1 ⟨rfl, hq⟩
         have hb1 := hb0.trans (hq.mono (HSS.out _ hb0))
         clear hq hb0 ))
    go_ret
    exact ⟨rfl, hb2⟩

set_option maxRecDepth 100000 in
set_option maxHeartbeats 4000000 in
theorem digits_2_zero (A : Option Addr) (n c : Nat) (l : List Int) (w : World) (hr : Rd w w.heap.size A n .u64 l) (hwl : Words l) (hn : n ≤ 12) (hds : digs 2 (64 * n) (num l) = tab 0 (fun k => dg 2 (nxs 2 k (num l)))) (h0 : nxs 2 0 (num l) = 0) (hne : ∀ j, j < 0 → nxs 2 j (num l) ≠ 0) (hmq : 0 ≤ 64 * n / 2 + 1) : Calls Try.prog 9 #[.slice A n c, .int .i64 2] w fun e w' => e = .returned (.bool true) ∧ Below w.heap.size w w' := by
  have hlen : (tab 0 (fun k => dg 2 (nxs 2 k (num l)))).length = 0 := tab_len _ _
  have hll := hr.len
  have hv0 := num_bounds hwl
  rw [hll] at hv0
  obtain ⟨v, hv⟩ : ∃ v, num l = v := ⟨_, rfl⟩
  have HV : Keep (num l = v) := ⟨hv⟩
  have HW : Keep (Words l) := ⟨hwl⟩
  obtain ⟨N, hN⟩ : ∃ N, n + 2 = N := ⟨_, rfl⟩
  have hNi : (n : Int) + 2 = (N : Int) := by omega
  have hNb : 2 ≤ N ∧ N ≤ 14 := by omega
  have hroom := wp_room n
  have hmono : wp (n + 1) ≤ wp N := by rw [← hN]; exact wp_le (by omega)
  rw [hv] at hds h0 hne hlen hv0
  have P1 : Keep (∀ y : World, Rd y y.heap.size A n .u64 l → Calls Try.prog 30 #[.slice A n c, .int .i64 2] y fun e y' => ∃ A' c', e = .returned (.tuple #[.slice A' 0 c', .int .i64 0]) ∧ Rd y' y'.heap.size A' 0 .i64 (tab 0 (fun k => dg 2 (nxs 2 k v))) ∧ Below y.heap.size y y') := ⟨fun y h => by
    have h1 := frWindows_2 A n c l y.heap.size y h hwl (Nat.le_refl _) (by omega)
    rw [HV.out, hds] at h1
    refine h1.mono ?_
    rintro e y' ⟨A', m', c', he, ho, hb⟩
    have hm' := ho.len
    rw [hlen] at hm'
    subst hm'
    exact ⟨A', c', he, ho.rd, hb⟩⟩
  have BD : Keep (∀ i, 0 ≤ nxs 2 i v ∧ nxs 2 i v < wp n) := ⟨fun i => by have := nxs_bounds (H := 2) (by omega) hv0.1 i; omega⟩
  have ST : Keep (∀ i, nxs 2 i v = dg 2 (nxs 2 i v) + 4 * nxs 2 (i + 1) v) := ⟨fun i => nx_eq (H := 2) (by omega)⟩
  have HR : Keep (wp n + 256 ≤ wp N) := ⟨by omega⟩
  have P5 : Keep (∀ (y : World) (As : Option Addr) (cs : Nat), Rd y y.heap.size As N .u64 (wd N (nxs 2 0 v)) → Rd y y.heap.size A n .u64 l → Calls Try.prog 36 #[.slice As N cs, .slice A n c] y fun e y' => e = .returned (.int .i64 0) ∧ Below y.heap.size y y') := ⟨fun y As cs h h' => by
    have h1 := cmp_c As N cs (wd N (nxs 2 0 v)) A n c l y.heap.size y h (wd_words _ _) h' hwl (Nat.le_refl _) (by omega) (by omega)
    have hb := BD.out 0
    have hz : cmpL (wd N (nxs 2 0 v)) l = 0 := by
      unfold cmpL
      rw [num_wd_of hb.1 (by have := HR.out; omega), HV.out]
      exact (if_neg (show ¬ v < v by omega)).trans (if_pos rfl)
    rw [hz] at h1
    exact h1⟩
  have hqm : 0 ≤ 64 * n / 2 + 1 := hmq
  obtain ⟨Q, hQ⟩ : ∃ Q, 64 * n / 2 = Q := ⟨_, rfl⟩
  have hQi : 64 * (n : Int) / 2 = (Q : Int) := by omega
  rw [hQ] at hqm
  have hQb : Q ≤ 400 := by omega
  have H0 : Keep (nxs 2 0 v = 0) := ⟨h0⟩
  have hmk : ∀ w, (Instr.makeSlice 39 (.int .i64 N) (.int .i64 N)).run Try.prog w = .ok (.slice (some ⟨w.heap.size, 0, none⟩) N N) (w.alloc (.cells (vals .u64 (List.replicate N 0)) 23)) := fun w => run_make_vals w _ _ .u64 Try.underlying39 u64Elem .i64 .i64 N (by omega) (by omega)
  obtain ⟨S, hS⟩ : ∃ S, w.heap.size = S := ⟨_, rfl⟩
  have hsz0 : w.heap.size = S + 0 := hS
  have hb0 : Below S w w := Below.refl _ _
  have HSS : Keep (∀ x : World, Below S w x → S ≤ x.heap.size) := ⟨fun x hb => by have := hb.size; omega⟩
  rw [hS]
  have HRD : Keep (∀ x : World, Below S w x → Rd x x.heap.size A n .u64 l) := ⟨fun x hb => (hr.keep hb (by omega)).more (by have := HSS.out _ hb; omega)⟩
  clear hr hwl hds h0 hne hmq hlen hll hv0 hv hroom hmono hQ hN
  go_enter Try.func9, Try.ntmps9
  go_wp2_with (first
    | (have hq0 := hb1
       clear hq0
       go_at_call 30
       refine (P1.out _ (HRD.out _ hb1)).mono ?_
       rintro e w2 ⟨A3, c3, rfl, hrd, hq⟩
       have hb2 := hb1.trans (hq.mono (HSS.out _ hb1))
       have xd2 := hrd
       clear hrd
       clear hq hb1 )
    | (have hq0 := hb0
       clear hq0
       go_at_call 11
       refine (awake_c _).mono ?_
       rintro e w1 ⟨rfl, hq⟩
       have hb1 := hb0.trans (hq.mono (HSS.out _ hb0))
       clear hq hb0 ))
  obtain ⟨gs, hgs⟩ : ∃ g, w2.heap.size = g := ⟨_, rfl⟩
  rw [hgs]
  have T2 : Keep (S ≤ gs) := ⟨by rw [← hgs]; exact HSS.out _ hb2⟩
  have qs3 : Has ((w2.alloc (.cells (vals .u64 (List.replicate N 0)) 23)).alloc (.cells (vals .u64 [4]) 23)) gs 23 (vals .u64 (List.replicate N 0)) := (Has.new' _ hgs.symm _ _).alloc _
  have qb3 : Has ((w2.alloc (.cells (vals .u64 (List.replicate N 0)) 23)).alloc (.cells (vals .u64 [4]) 23)) (gs + 1) 23 (vals .u64 [4]) := Has.new' _ (by simp only [World.size_alloc, hgs]) _ _
  have hb3 : Below w2.heap.size w2 ((w2.alloc (.cells (vals .u64 (List.replicate N 0)) 23)).alloc (.cells (vals .u64 [4]) 23)) := ((Below.refl _ _).alloc (Nat.le_refl _) _).alloc (by simp) _
  have rs3 : Rd ((w2.alloc (.cells (vals .u64 (List.replicate N 0)) 23)).alloc (.cells (vals .u64 [4]) 23)) ((w2.alloc (.cells (vals .u64 (List.replicate N 0)) 23)).alloc (.cells (vals .u64 [4]) 23)).heap.size (some ⟨gs, 0, none⟩) N .u64 (wd N (nxs 2 0 v)) := by
    have e : List.replicate N 0 = wd N (nxs 2 0 v) := by
      rw [H0.out]
      have h0 := wd_num (n := N) (words_zeros N) (by simp)
      rw [num_zeros] at h0
      exact h0.symm
    rw [← e]
    exact Rd.of_has qs3 qs3.lt (by rw [List.drop_zero, take_all (by simp)]) (by simp)
  have HB2 : Keep (Below S w w2) := ⟨hb2⟩
  have HSZ : Keep (S ≤ w2.heap.size) := ⟨HSS.out _ hb2⟩
  clear hb2 qs3 hmk
  go_loopg [9, 11] 0 (fun (gk : Nat) vs vi w10 => ∃ (As : Option Addr) (cs : Nat), gk ≤ 0 ∧ vs = .slice As N cs ∧ vi = .int .i64 ((gk : Int) - 1) ∧ Rd w10 w10.heap.size As N .u64 (wd N (nxs 2 gk v)) ∧ Has w10 (gs + 1) 23 (vals .u64 [4]) ∧ Below w2.heap.size w2 w10)
  case atStart => exact ⟨some ⟨gs, 0, none⟩, N, Nat.le_refl _, rfl, by go_num, rs3, qb3, hb3⟩
  case round =>
    clear rs3 qb3 hb3
    obtain ⟨As, cs, hk, rfl, rfl, rs10, qb10, hb10⟩ := hrel
    rcases gk with _ | i
    · have hbw := HB2.out.trans (hb10.mono HSZ.out)
      have ra := HRD.out _ hbw
      clear qb10
      go_wp2_with (go_at_call 36
                   refine (P5.out _ _ _ rs10 ra).mono ?_
                   rintro e w11 ⟨rfl, hq⟩
                   have hb11 := hbw.trans (hq.mono (HSS.out _ hbw)))
      go_ret
      exact ⟨rfl, hb11⟩
    · exact absurd hk (by omega)

set_option maxRecDepth 100000 in
set_option maxHeartbeats 4000000 in
theorem digits_2_some (A : Option Addr) (n c : Nat) (l : List Int) (w : World) (hr : Rd w w.heap.size A n .u64 l) (hwl : Words l) (hn : n ≤ 12) (k : Nat) (hds : digs 2 (64 * n) (num l) = tab (k + 1) (fun k => dg 2 (nxs 2 k (num l)))) (h0 : nxs 2 (k + 1) (num l) = 0) (hne : ∀ j, j < (k + 1) → nxs 2 j (num l) ≠ 0) (hmq : (k + 1) ≤ 64 * n / 2 + 1) : Calls Try.prog 9 #[.slice A n c, .int .i64 2] w fun e w' => e = .returned (.bool true) ∧ Below w.heap.size w w' := by
  have hlen : (tab (k + 1) (fun k => dg 2 (nxs 2 k (num l)))).length = (k + 1) := tab_len _ _
  have hll := hr.len
  have hv0 := num_bounds hwl
  rw [hll] at hv0
  obtain ⟨v, hv⟩ : ∃ v, num l = v := ⟨_, rfl⟩
  have HV : Keep (num l = v) := ⟨hv⟩
  have HW : Keep (Words l) := ⟨hwl⟩
  obtain ⟨N, hN⟩ : ∃ N, n + 2 = N := ⟨_, rfl⟩
  have hNi : (n : Int) + 2 = (N : Int) := by omega
  have hNb : 2 ≤ N ∧ N ≤ 14 := by omega
  have hroom := wp_room n
  have hmono : wp (n + 1) ≤ wp N := by rw [← hN]; exact wp_le (by omega)
  rw [hv] at hds h0 hne hlen hv0
  have P1 : Keep (∀ y : World, Rd y y.heap.size A n .u64 l → Calls Try.prog 30 #[.slice A n c, .int .i64 2] y fun e y' => ∃ A' c', e = .returned (.tuple #[.slice A' (k + 1) c', .int .i64 0]) ∧ Rd y' y'.heap.size A' (k + 1) .i64 (tab (k + 1) (fun k => dg 2 (nxs 2 k v))) ∧ Below y.heap.size y y') := ⟨fun y h => by
    have h1 := frWindows_2 A n c l y.heap.size y h hwl (Nat.le_refl _) (by omega)
    rw [HV.out, hds] at h1
    refine h1.mono ?_
    rintro e y' ⟨A', m', c', he, ho, hb⟩
    have hm' := ho.len
    rw [hlen] at hm'
    subst hm'
    exact ⟨A', c', he, ho.rd, hb⟩⟩
  have BD : Keep (∀ i, 0 ≤ nxs 2 i v ∧ nxs 2 i v < wp n) := ⟨fun i => by have := nxs_bounds (H := 2) (by omega) hv0.1 i; omega⟩
  have ST : Keep (∀ i, nxs 2 i v = dg 2 (nxs 2 i v) + 4 * nxs 2 (i + 1) v) := ⟨fun i => nx_eq (H := 2) (by omega)⟩
  have HR : Keep (wp n + 256 ≤ wp N) := ⟨by omega⟩
  have P5 : Keep (∀ (y : World) (As : Option Addr) (cs : Nat), Rd y y.heap.size As N .u64 (wd N (nxs 2 0 v)) → Rd y y.heap.size A n .u64 l → Calls Try.prog 36 #[.slice As N cs, .slice A n c] y fun e y' => e = .returned (.int .i64 0) ∧ Below y.heap.size y y') := ⟨fun y As cs h h' => by
    have h1 := cmp_c As N cs (wd N (nxs 2 0 v)) A n c l y.heap.size y h (wd_words _ _) h' hwl (Nat.le_refl _) (by omega) (by omega)
    have hb := BD.out 0
    have hz : cmpL (wd N (nxs 2 0 v)) l = 0 := by
      unfold cmpL
      rw [num_wd_of hb.1 (by have := HR.out; omega), HV.out]
      exact (if_neg (show ¬ v < v by omega)).trans (if_pos rfl)
    rw [hz] at h1
    exact h1⟩
  have P2 : Keep (∀ (i : Nat) (y : World) (As : Option Addr) (cs gb : Nat), Rd y y.heap.size As N .u64 (wd N (nxs 2 (i + 1) v)) → Has y gb 23 (vals .u64 [4]) → Calls Try.prog 33 #[.slice As N cs, .slice (some ⟨gb, 0, none⟩) 1 1] y fun e y' => ∃ g' c', e = .returned (.slice (some ⟨g', 0, none⟩) (N + 1) c') ∧ N + 1 ≤ c' ∧ Rd y' y'.heap.size (some ⟨g', 0, none⟩) N .u64 (wd N (nxs 2 (i + 1) v * 4)) ∧ Below y.heap.size y y') := ⟨fun i y As cs gb h h' => by
    have h1 := mulOwn_c As N cs _ (some ⟨gb, 0, none⟩) 1 1 [4] y.heap.size y h (wd_words _ _) (Rd.of_has h' h'.lt (by rfl) (by decide)) (words_of _ (by decide)) (Nat.le_refl _) (by omega) (by omega)
    have hb := BD.out (i + 1)
    rw [num_wd_of hb.1 (by have := HR.out; omega), show num [4] = 4 by decide] at h1
    refine h1.mono ?_
    rintro e y' ⟨A', c', he, ho, hb'⟩
    have hcap := ho.le_cap
    have hrd := ho.rd.take_ (m := N) (by omega)
    rw [wd_take] at hrd
    obtain ⟨g', rfl, -⟩ := ho.at_ (by omega)
    exact ⟨g', c', he, hcap, hrd, hb'⟩⟩
  have P3 : Keep (∀ (i : Nat) (zn : Int) (y : World) (As : Option Addr) (cs g : Nat), -dg 2 (nxs 2 i v) = zn → 0 ≤ zn → zn ≤ 2 → Rd y y.heap.size As N .u64 (wd N (nxs 2 (i + 1) v * 4)) → Has y g 23 (vals .u64 [zn]) → Calls Try.prog 34 #[.slice As N cs, .slice (some ⟨g, 0, none⟩) 1 1] y fun e y' => ∃ A' c' co, e = .returned (.tuple #[.slice A' N c', .int .u64 co]) ∧ Rd y' y'.heap.size A' N .u64 (wd N (nxs 2 i v)) ∧ Below y.heap.size y y') := ⟨fun i zn y As cs g hz hz0 hz1 h h' => by
    have h1 := sub_c As N cs _ (some ⟨g, 0, none⟩) 1 1 [zn] y.heap.size y h (wd_words _ _) (Rd.of_has h' h'.lt (by rfl) (by show 0 + 1 ≤ 1; omega)) (words_one hz0 (by omega)) (Nat.le_refl _) (by omega) (by omega)
    have hb := BD.out i
    have hb1 := BD.out (i + 1)
    have hs := ST.out i
    have hd := dg_bounds (H := 2) (v := nxs 2 i v) (by omega)
    have hr_ := HR.out
    have hn1 : num [zn] = zn := by rw [num_cons, num_nil]; omega
    have he : subL (wd N (nxs 2 (i + 1) v * 4)) [zn] = wd N (nxs 2 i v) := by
      rw [subL, wd_len, num_wd_of (by omega) (by omega), hn1, show max N [zn].length = N by simp; omega]
      congr 1
      omega
    rw [he, Nat.max_eq_left (by omega)] at h1
    refine h1.mono ?_
    rintro e y' ⟨A', c', he, ho, hb'⟩
    exact ⟨A', c', _, he, ho.rd, hb'⟩⟩
  have P4 : Keep (∀ (i : Nat) (zn : Int) (y : World) (As : Option Addr) (cs g : Nat), dg 2 (nxs 2 i v) = zn → 0 ≤ zn → zn ≤ 2 → Rd y y.heap.size As N .u64 (wd N (nxs 2 (i + 1) v * 4)) → Has y g 23 (vals .u64 [zn]) → Calls Try.prog 35 #[.slice As N cs, .slice (some ⟨g, 0, none⟩) 1 1] y fun e y' => ∃ A' c' co, e = .returned (.tuple #[.slice A' N c', .int .u64 co]) ∧ Rd y' y'.heap.size A' N .u64 (wd N (nxs 2 i v)) ∧ Below y.heap.size y y') := ⟨fun i zn y As cs g hz hz0 hz1 h h' => by
    have h1 := add_c As N cs _ (some ⟨g, 0, none⟩) 1 1 [zn] y.heap.size y h (wd_words _ _) (Rd.of_has h' h'.lt (by rfl) (by show 0 + 1 ≤ 1; omega)) (words_one hz0 (by omega)) (Nat.le_refl _) (by omega) (by omega)
    have hb := BD.out i
    have hb1 := BD.out (i + 1)
    have hs := ST.out i
    have hr_ := HR.out
    have hn1 : num [zn] = zn := by rw [num_cons, num_nil]; omega
    have he : addL (wd N (nxs 2 (i + 1) v * 4)) [zn] = wd N (nxs 2 i v) := by
      rw [addL, wd_len, num_wd_of (by omega) (by omega), hn1, show max N [zn].length = N by simp; omega]
      congr 1
      omega
    rw [he, Nat.max_eq_left (by omega)] at h1
    refine h1.mono ?_
    rintro e y' ⟨A', c', he, ho, hb'⟩
    exact ⟨A', c', _, he, ho.rd, hb'⟩⟩
  obtain ⟨z, hz⟩ : ∃ z, dg 2 (nxs 2 k v) = z := ⟨_, rfl⟩
  have hz0 : z ≠ 0 := by
    have h1 := ST.out k
    rw [h0, hz] at h1
    have h2 := hne k (by omega)
    omega
  have hz0' : (z == 0) = false := by rw [beq_eq_false_iff_ne]; exact hz0
  obtain ⟨K, hK⟩ : ∃ K, k + 1 = K := ⟨_, rfl⟩
  have hKi : (K : Int) - 1 = (k : Int) := by omega
  have hKp : 0 < K := by omega
  have hTN : nth (tab K (fun k => dg 2 (nxs 2 k v))) k = z := by rw [tab_nth _ (by omega)]; exact hz
  have HTN : Keep _ := ⟨hTN⟩
  have HTL : Keep ((tab K (fun k => dg 2 (nxs 2 k v))).length = K) := ⟨tab_len _ _⟩
  rw [hK] at P1 h0 hmq
  clear hTN hz hz0
  have hqm : K ≤ 64 * n / 2 + 1 := hmq
  obtain ⟨Q, hQ⟩ : ∃ Q, 64 * n / 2 = Q := ⟨_, rfl⟩
  have hQi : 64 * (n : Int) / 2 = (Q : Int) := by omega
  rw [hQ] at hqm
  have hQb : Q ≤ 400 := by omega
  have H0 : Keep (nxs 2 K v = 0) := ⟨h0⟩
  have hmk : ∀ w, (Instr.makeSlice 39 (.int .i64 N) (.int .i64 N)).run Try.prog w = .ok (.slice (some ⟨w.heap.size, 0, none⟩) N N) (w.alloc (.cells (vals .u64 (List.replicate N 0)) 23)) := fun w => run_make_vals w _ _ .u64 Try.underlying39 u64Elem .i64 .i64 N (by omega) (by omega)
  obtain ⟨S, hS⟩ : ∃ S, w.heap.size = S := ⟨_, rfl⟩
  have hsz0 : w.heap.size = S + 0 := hS
  have hb0 : Below S w w := Below.refl _ _
  have HSS : Keep (∀ x : World, Below S w x → S ≤ x.heap.size) := ⟨fun x hb => by have := hb.size; omega⟩
  rw [hS]
  have HRD : Keep (∀ x : World, Below S w x → Rd x x.heap.size A n .u64 l) := ⟨fun x hb => (hr.keep hb (by omega)).more (by have := HSS.out _ hb; omega)⟩
  clear hr hwl hds h0 hne hmq hlen hll hv0 hv hroom hmono hQ hN
  go_enter Try.func9, Try.ntmps9
  go_wp2_with (first
    | (have hq0 := hb1
       clear hq0
       go_at_call 30
       refine (P1.out _ (HRD.out _ hb1)).mono ?_
       rintro e w2 ⟨A3, c3, rfl, hrd, hq⟩
       have hb2 := hb1.trans (hq.mono (HSS.out _ hb1))
       have xd2 := hrd
       clear hrd
       obtain ⟨b3, o3, rfl, hlt3, hc3⟩ := xd2.at_ (by omega)
       have HDC : Keep (∀ x : World, Below w2.heap.size w2 x → ∀ j, j < K → x.cell? ⟨b3, o3 + j, none⟩ = some (.int .i64 (nth (tab K (fun k => dg 2 (nxs 2 k v))) j))) := ⟨fun x h j hj => (h.cell (p := ⟨b3, o3 + j, none⟩) hlt3).trans (hc3 j hj)⟩
       have c0 := hc3 k (by omega)
       rw [HTN.out] at c0
       clear hc3 xd2
       clear hq hb1 )
    | (have hq0 := hb0
       clear hq0
       go_at_call 11
       refine (awake_c _).mono ?_
       rintro e w1 ⟨rfl, hq⟩
       have hb1 := hb0.trans (hq.mono (HSS.out _ hb0))
       clear hq hb0 ))
  obtain ⟨gs, hgs⟩ : ∃ g, w2.heap.size = g := ⟨_, rfl⟩
  rw [hgs]
  have T2 : Keep (S ≤ gs) := ⟨by rw [← hgs]; exact HSS.out _ hb2⟩
  have qs3 : Has ((w2.alloc (.cells (vals .u64 (List.replicate N 0)) 23)).alloc (.cells (vals .u64 [4]) 23)) gs 23 (vals .u64 (List.replicate N 0)) := (Has.new' _ hgs.symm _ _).alloc _
  have qb3 : Has ((w2.alloc (.cells (vals .u64 (List.replicate N 0)) 23)).alloc (.cells (vals .u64 [4]) 23)) (gs + 1) 23 (vals .u64 [4]) := Has.new' _ (by simp only [World.size_alloc, hgs]) _ _
  have hb3 : Below w2.heap.size w2 ((w2.alloc (.cells (vals .u64 (List.replicate N 0)) 23)).alloc (.cells (vals .u64 [4]) 23)) := ((Below.refl _ _).alloc (Nat.le_refl _) _).alloc (by simp) _
  have rs3 : Rd ((w2.alloc (.cells (vals .u64 (List.replicate N 0)) 23)).alloc (.cells (vals .u64 [4]) 23)) ((w2.alloc (.cells (vals .u64 (List.replicate N 0)) 23)).alloc (.cells (vals .u64 [4]) 23)).heap.size (some ⟨gs, 0, none⟩) N .u64 (wd N (nxs 2 K v)) := by
    have e : List.replicate N 0 = wd N (nxs 2 K v) := by
      rw [H0.out]
      have h0 := wd_num (n := N) (words_zeros N) (by simp)
      rw [num_zeros] at h0
      exact h0.symm
    rw [← e]
    exact Rd.of_has qs3 qs3.lt (by rw [List.drop_zero, take_all (by simp)]) (by simp)
  have HB2 : Keep (Below S w w2) := ⟨hb2⟩
  have HSZ : Keep (S ≤ w2.heap.size) := ⟨HSS.out _ hb2⟩
  clear hb2 qs3 hmk
  go_loopg [9, 11] K (fun (gk : Nat) vs vi w10 => ∃ (As : Option Addr) (cs : Nat), gk ≤ K ∧ vs = .slice As N cs ∧ vi = .int .i64 ((gk : Int) - 1) ∧ Rd w10 w10.heap.size As N .u64 (wd N (nxs 2 gk v)) ∧ Has w10 (gs + 1) 23 (vals .u64 [4]) ∧ Below w2.heap.size w2 w10)
  case atStart => exact ⟨some ⟨gs, 0, none⟩, N, Nat.le_refl _, rfl, by first | rfl | (rw [hKi]) | go_num, rs3, qb3, hb3⟩
  case round =>
    clear rs3 qb3 hb3
    obtain ⟨As, cs, hk, rfl, rfl, rs10, qb10, hb10⟩ := hrel
    rcases gk with _ | i
    · have hbw := HB2.out.trans (hb10.mono HSZ.out)
      have ra := HRD.out _ hbw
      clear qb10
      go_wp2_with (go_at_call 36
                   refine (P5.out _ _ _ rs10 ra).mono ?_
                   rintro e w11 ⟨rfl, hq⟩
                   have hb11 := hbw.trans (hq.mono (HSS.out _ hbw)))
      go_ret
      exact ⟨rfl, hb11⟩
    · have e1 : ((i + 1 : Nat) : Int) - 1 = (i : Int) := by omega
      rw [e1]
      clear e1
      obtain ⟨y, hy⟩ : ∃ y, dg 2 (nxs 2 i v) = y := ⟨_, rfl⟩
      have hyb : -2 < y ∧ y ≤ 2 := by rw [← hy]; exact dg_bounds (by omega)
      have HY : Keep _ := ⟨hy⟩
      have HYC : Keep (∀ x : World, Below w2.heap.size w2 x → x.cell? ⟨b3, o3 + i, none⟩ = some (.int .i64 y)) := ⟨fun x h => by rw [HDC.out x h i (by omega), tab_nth _ (by omega)]; show some (Value.int IntKind.i64 (dg 2 (nxs 2 i v))) = _; rw [HY.out]⟩
      have c1 := HYC.out _ hb10
      have hKb : i < K := by omega
      clear hy
      by_cases hneg : y < 0
      · obtain ⟨zn, hzn⟩ : ∃ z, -y = z := ⟨_, rfl⟩
        have hznb : 0 < zn ∧ zn ≤ 2 := by omega
        have HZ : Keep (-dg 2 (nxs 2 i v) = zn) := ⟨by rw [HY.out]; exact hzn⟩
        go_wp2_with (first
          | (go_at_call 34
             have hal := (Below.refl w11.heap.size w11).alloc (Nat.le_refl _) (.cells (vals .u64 [zn]) 23)
             refine (P3.out i zn _ _ _ w11.heap.size HZ.out (by omega) (by omega) (rd_here rp11 hal) (Has.new _ _ _)).mono ?_
             rintro e w12 ⟨A5, c5, co, rfl, rs12, hq⟩
             have hbe := hal.trans (hq.mono hal.size)
             have qb12 := qb11.keep hbe
             have hb12 := hb11.trans (hbe.mono hb11.size)
             clear hal hq hbe rp11 qb11 hb11)
          | (go_at_call 33
             refine (P2.out i _ _ _ _ rs10 qb10).mono ?_
             rintro e w11 ⟨g4, c4, rfl, hc4, rp11, hq⟩
             have qb11 := qb10.keep hq
             have hb11 := hb10.trans (hq.mono hb10.size)
             have c2 := HYC.out _ hb11
             clear hq rs10 qb10 hb10 c1))
        go_roundg i
        case measure => omega
        case rel => exact ⟨A5, c5, by omega, rfl, by go_num, rs12, qb12, hb12⟩
      · have HZ : Keep (dg 2 (nxs 2 i v) = y) := ⟨HY.out⟩
        have hznb : 0 ≤ y ∧ y ≤ 2 := by omega
        go_wp2_with (first
          | (go_at_call 35
             have hal := (Below.refl w11.heap.size w11).alloc (Nat.le_refl _) (.cells (vals .u64 [y]) 23)
             refine (P4.out i y _ _ _ w11.heap.size HZ.out (by omega) (by omega) (rd_here rp11 hal) (Has.new _ _ _)).mono ?_
             rintro e w12 ⟨A5, c5, co, rfl, rs12, hq⟩
             have hbe := hal.trans (hq.mono hal.size)
             have qb12 := qb11.keep hbe
             have hb12 := hb11.trans (hbe.mono hb11.size)
             clear hal hq hbe rp11 qb11 hb11)
          | (go_at_call 33
             refine (P2.out i _ _ _ _ rs10 qb10).mono ?_
             rintro e w11 ⟨g4, c4, rfl, hc4, rp11, hq⟩
             have qb11 := qb10.keep hq
             have hb11 := hb10.trans (hq.mono hb10.size)
             have c2 := HYC.out _ hb11
             clear hq rs10 qb10 hb10 c1))
        go_roundg i
        case measure => omega
        case rel => exact ⟨A5, c5, by omega, rfl, by go_num, rs12, qb12, hb12⟩

set_option maxRecDepth 100000 in
set_option maxHeartbeats 4000000 in
theorem digits_2 (A : Option Addr) (n c : Nat) (l : List Int) (w : World) (hr : Rd w w.heap.size A n .u64 l) (hwl : Words l) (hn : n ≤ 12) : Calls Try.prog 9 #[.slice A n c, .int .i64 2] w fun e w' => e = .returned (.bool true) ∧ Below w.heap.size w w' := by
  obtain ⟨m, h1, h2, h3, h4, -⟩ := digs_shape (H := 2) (W := 2) rfl (by omega) (by omega) hwl hr.len
  rcases m with _ | k
  · exact digits_2_zero A n c l w hr hwl hn h1 h2 h3 h4
  · exact digits_2_some A n c l w hr hwl hn k h1 h2 h3 h4

set_option maxRecDepth 100000 in
set_option maxHeartbeats 4000000 in
theorem digits_3_zero (A : Option Addr) (n c : Nat) (l : List Int) (w : World) (hr : Rd w w.heap.size A n .u64 l) (hwl : Words l) (hn : n ≤ 12) (hds : digs 4 (64 * n) (num l) = tab 0 (fun k => dg 4 (nxs 4 k (num l)))) (h0 : nxs 4 0 (num l) = 0) (hne : ∀ j, j < 0 → nxs 4 j (num l) ≠ 0) (hmq : 0 ≤ 64 * n / 3 + 1) : Calls Try.prog 9 #[.slice A n c, .int .i64 3] w fun e w' => e = .returned (.bool true) ∧ Below w.heap.size w w' := by
  have hlen : (tab 0 (fun k => dg 4 (nxs 4 k (num l)))).length = 0 := tab_len _ _
  have hll := hr.len
  have hv0 := num_bounds hwl
  rw [hll] at hv0
  obtain ⟨v, hv⟩ : ∃ v, num l = v := ⟨_, rfl⟩
  have HV : Keep (num l = v) := ⟨hv⟩
  have HW : Keep (Words l) := ⟨hwl⟩
  obtain ⟨N, hN⟩ : ∃ N, n + 2 = N := ⟨_, rfl⟩
  have hNi : (n : Int) + 2 = (N : Int) := by omega
  have hNb : 2 ≤ N ∧ N ≤ 14 := by omega
  have hroom := wp_room n
  have hmono : wp (n + 1) ≤ wp N := by rw [← hN]; exact wp_le (by omega)
  rw [hv] at hds h0 hne hlen hv0
  have P1 : Keep (∀ y : World, Rd y y.heap.size A n .u64 l → Calls Try.prog 30 #[.slice A n c, .int .i64 3] y fun e y' => ∃ A' c', e = .returned (.tuple #[.slice A' 0 c', .int .i64 0]) ∧ Rd y' y'.heap.size A' 0 .i64 (tab 0 (fun k => dg 4 (nxs 4 k v))) ∧ Below y.heap.size y y') := ⟨fun y h => by
    have h1 := frWindows_3 A n c l y.heap.size y h hwl (Nat.le_refl _) (by omega)
    rw [HV.out, hds] at h1
    refine h1.mono ?_
    rintro e y' ⟨A', m', c', he, ho, hb⟩
    have hm' := ho.len
    rw [hlen] at hm'
    subst hm'
    exact ⟨A', c', he, ho.rd, hb⟩⟩
  have BD : Keep (∀ i, 0 ≤ nxs 4 i v ∧ nxs 4 i v < wp n) := ⟨fun i => by have := nxs_bounds (H := 4) (by omega) hv0.1 i; omega⟩
  have ST : Keep (∀ i, nxs 4 i v = dg 4 (nxs 4 i v) + 8 * nxs 4 (i + 1) v) := ⟨fun i => nx_eq (H := 4) (by omega)⟩
  have HR : Keep (wp n + 256 ≤ wp N) := ⟨by omega⟩
  have P5 : Keep (∀ (y : World) (As : Option Addr) (cs : Nat), Rd y y.heap.size As N .u64 (wd N (nxs 4 0 v)) → Rd y y.heap.size A n .u64 l → Calls Try.prog 36 #[.slice As N cs, .slice A n c] y fun e y' => e = .returned (.int .i64 0) ∧ Below y.heap.size y y') := ⟨fun y As cs h h' => by
    have h1 := cmp_c As N cs (wd N (nxs 4 0 v)) A n c l y.heap.size y h (wd_words _ _) h' hwl (Nat.le_refl _) (by omega) (by omega)
    have hb := BD.out 0
    have hz : cmpL (wd N (nxs 4 0 v)) l = 0 := by
      unfold cmpL
      rw [num_wd_of hb.1 (by have := HR.out; omega), HV.out]
      exact (if_neg (show ¬ v < v by omega)).trans (if_pos rfl)
    rw [hz] at h1
    exact h1⟩
  have hqm : 0 ≤ 64 * n / 3 + 1 := hmq
  obtain ⟨Q, hQ⟩ : ∃ Q, 64 * n / 3 = Q := ⟨_, rfl⟩
  have hQi : 64 * (n : Int) / 3 = (Q : Int) := by omega
  rw [hQ] at hqm
  have hQb : Q ≤ 400 := by omega
  have H0 : Keep (nxs 4 0 v = 0) := ⟨h0⟩
  have hmk : ∀ w, (Instr.makeSlice 39 (.int .i64 N) (.int .i64 N)).run Try.prog w = .ok (.slice (some ⟨w.heap.size, 0, none⟩) N N) (w.alloc (.cells (vals .u64 (List.replicate N 0)) 23)) := fun w => run_make_vals w _ _ .u64 Try.underlying39 u64Elem .i64 .i64 N (by omega) (by omega)
  obtain ⟨S, hS⟩ : ∃ S, w.heap.size = S := ⟨_, rfl⟩
  have hsz0 : w.heap.size = S + 0 := hS
  have hb0 : Below S w w := Below.refl _ _
  have HSS : Keep (∀ x : World, Below S w x → S ≤ x.heap.size) := ⟨fun x hb => by have := hb.size; omega⟩
  rw [hS]
  have HRD : Keep (∀ x : World, Below S w x → Rd x x.heap.size A n .u64 l) := ⟨fun x hb => (hr.keep hb (by omega)).more (by have := HSS.out _ hb; omega)⟩
  clear hr hwl hds h0 hne hmq hlen hll hv0 hv hroom hmono hQ hN
  go_enter Try.func9, Try.ntmps9
  go_wp2_with (first
    | (have hq0 := hb1
       clear hq0
       go_at_call 30
       refine (P1.out _ (HRD.out _ hb1)).mono ?_
       rintro e w2 ⟨A3, c3, rfl, hrd, hq⟩
       have hb2 := hb1.trans (hq.mono (HSS.out _ hb1))
       have xd2 := hrd
       clear hrd
       clear hq hb1 )
    | (have hq0 := hb0
       clear hq0
       go_at_call 11
       refine (awake_c _).mono ?_
       rintro e w1 ⟨rfl, hq⟩
       have hb1 := hb0.trans (hq.mono (HSS.out _ hb0))
       clear hq hb0 ))
  obtain ⟨gs, hgs⟩ : ∃ g, w2.heap.size = g := ⟨_, rfl⟩
  rw [hgs]
  have T2 : Keep (S ≤ gs) := ⟨by rw [← hgs]; exact HSS.out _ hb2⟩
  have qs3 : Has ((w2.alloc (.cells (vals .u64 (List.replicate N 0)) 23)).alloc (.cells (vals .u64 [8]) 23)) gs 23 (vals .u64 (List.replicate N 0)) := (Has.new' _ hgs.symm _ _).alloc _
  have qb3 : Has ((w2.alloc (.cells (vals .u64 (List.replicate N 0)) 23)).alloc (.cells (vals .u64 [8]) 23)) (gs + 1) 23 (vals .u64 [8]) := Has.new' _ (by simp only [World.size_alloc, hgs]) _ _
  have hb3 : Below w2.heap.size w2 ((w2.alloc (.cells (vals .u64 (List.replicate N 0)) 23)).alloc (.cells (vals .u64 [8]) 23)) := ((Below.refl _ _).alloc (Nat.le_refl _) _).alloc (by simp) _
  have rs3 : Rd ((w2.alloc (.cells (vals .u64 (List.replicate N 0)) 23)).alloc (.cells (vals .u64 [8]) 23)) ((w2.alloc (.cells (vals .u64 (List.replicate N 0)) 23)).alloc (.cells (vals .u64 [8]) 23)).heap.size (some ⟨gs, 0, none⟩) N .u64 (wd N (nxs 4 0 v)) := by
    have e : List.replicate N 0 = wd N (nxs 4 0 v) := by
      rw [H0.out]
      have h0 := wd_num (n := N) (words_zeros N) (by simp)
      rw [num_zeros] at h0
      exact h0.symm
    rw [← e]
    exact Rd.of_has qs3 qs3.lt (by rw [List.drop_zero, take_all (by simp)]) (by simp)
  have HB2 : Keep (Below S w w2) := ⟨hb2⟩
  have HSZ : Keep (S ≤ w2.heap.size) := ⟨HSS.out _ hb2⟩
  clear hb2 qs3 hmk
  go_loopg [9, 11] 0 (fun (gk : Nat) vs vi w10 => ∃ (As : Option Addr) (cs : Nat), gk ≤ 0 ∧ vs = .slice As N cs ∧ vi = .int .i64 ((gk : Int) - 1) ∧ Rd w10 w10.heap.size As N .u64 (wd N (nxs 4 gk v)) ∧ Has w10 (gs + 1) 23 (vals .u64 [8]) ∧ Below w2.heap.size w2 w10)
  case atStart => exact ⟨some ⟨gs, 0, none⟩, N, Nat.le_refl _, rfl, by go_num, rs3, qb3, hb3⟩
  case round =>
    clear rs3 qb3 hb3
    obtain ⟨As, cs, hk, rfl, rfl, rs10, qb10, hb10⟩ := hrel
    rcases gk with _ | i
    · have hbw := HB2.out.trans (hb10.mono HSZ.out)
      have ra := HRD.out _ hbw
      clear qb10
      go_wp2_with (go_at_call 36
                   refine (P5.out _ _ _ rs10 ra).mono ?_
                   rintro e w11 ⟨rfl, hq⟩
                   have hb11 := hbw.trans (hq.mono (HSS.out _ hbw)))
      go_ret
      exact ⟨rfl, hb11⟩
    · exact absurd hk (by omega)

set_option maxRecDepth 100000 in
set_option maxHeartbeats 4000000 in
theorem digits_3_some (A : Option Addr) (n c : Nat) (l : List Int) (w : World) (hr : Rd w w.heap.size A n .u64 l) (hwl : Words l) (hn : n ≤ 12) (k : Nat) (hds : digs 4 (64 * n) (num l) = tab (k + 1) (fun k => dg 4 (nxs 4 k (num l)))) (h0 : nxs 4 (k + 1) (num l) = 0) (hne : ∀ j, j < (k + 1) → nxs 4 j (num l) ≠ 0) (hmq : (k + 1) ≤ 64 * n / 3 + 1) : Calls Try.prog 9 #[.slice A n c, .int .i64 3] w fun e w' => e = .returned (.bool true) ∧ Below w.heap.size w w' := by
  have hlen : (tab (k + 1) (fun k => dg 4 (nxs 4 k (num l)))).length = (k + 1) := tab_len _ _
  have hll := hr.len
  have hv0 := num_bounds hwl
  rw [hll] at hv0
  obtain ⟨v, hv⟩ : ∃ v, num l = v := ⟨_, rfl⟩
  have HV : Keep (num l = v) := ⟨hv⟩
  have HW : Keep (Words l) := ⟨hwl⟩
  obtain ⟨N, hN⟩ : ∃ N, n + 2 = N := ⟨_, rfl⟩
  have hNi : (n : Int) + 2 = (N : Int) := by omega
  have hNb : 2 ≤ N ∧ N ≤ 14 := by omega
  have hroom := wp_room n
  have hmono : wp (n + 1) ≤ wp N := by rw [← hN]; exact wp_le (by omega)
  rw [hv] at hds h0 hne hlen hv0
  have P1 : Keep (∀ y : World, Rd y y.heap.size A n .u64 l → Calls Try.prog 30 #[.slice A n c, .int .i64 3] y fun e y' => ∃ A' c', e = .returned (.tuple #[.slice A' (k + 1) c', .int .i64 0]) ∧ Rd y' y'.heap.size A' (k + 1) .i64 (tab (k + 1) (fun k => dg 4 (nxs 4 k v))) ∧ Below y.heap.size y y') := ⟨fun y h => by
    have h1 := frWindows_3 A n c l y.heap.size y h hwl (Nat.le_refl _) (by omega)
    rw [HV.out, hds] at h1
    refine h1.mono ?_
    rintro e y' ⟨A', m', c', he, ho, hb⟩
    have hm' := ho.len
    rw [hlen] at hm'
    subst hm'
    exact ⟨A', c', he, ho.rd, hb⟩⟩
  have BD : Keep (∀ i, 0 ≤ nxs 4 i v ∧ nxs 4 i v < wp n) := ⟨fun i => by have := nxs_bounds (H := 4) (by omega) hv0.1 i; omega⟩
  have ST : Keep (∀ i, nxs 4 i v = dg 4 (nxs 4 i v) + 8 * nxs 4 (i + 1) v) := ⟨fun i => nx_eq (H := 4) (by omega)⟩
  have HR : Keep (wp n + 256 ≤ wp N) := ⟨by omega⟩
  have P5 : Keep (∀ (y : World) (As : Option Addr) (cs : Nat), Rd y y.heap.size As N .u64 (wd N (nxs 4 0 v)) → Rd y y.heap.size A n .u64 l → Calls Try.prog 36 #[.slice As N cs, .slice A n c] y fun e y' => e = .returned (.int .i64 0) ∧ Below y.heap.size y y') := ⟨fun y As cs h h' => by
    have h1 := cmp_c As N cs (wd N (nxs 4 0 v)) A n c l y.heap.size y h (wd_words _ _) h' hwl (Nat.le_refl _) (by omega) (by omega)
    have hb := BD.out 0
    have hz : cmpL (wd N (nxs 4 0 v)) l = 0 := by
      unfold cmpL
      rw [num_wd_of hb.1 (by have := HR.out; omega), HV.out]
      exact (if_neg (show ¬ v < v by omega)).trans (if_pos rfl)
    rw [hz] at h1
    exact h1⟩
  have P2 : Keep (∀ (i : Nat) (y : World) (As : Option Addr) (cs gb : Nat), Rd y y.heap.size As N .u64 (wd N (nxs 4 (i + 1) v)) → Has y gb 23 (vals .u64 [8]) → Calls Try.prog 33 #[.slice As N cs, .slice (some ⟨gb, 0, none⟩) 1 1] y fun e y' => ∃ g' c', e = .returned (.slice (some ⟨g', 0, none⟩) (N + 1) c') ∧ N + 1 ≤ c' ∧ Rd y' y'.heap.size (some ⟨g', 0, none⟩) N .u64 (wd N (nxs 4 (i + 1) v * 8)) ∧ Below y.heap.size y y') := ⟨fun i y As cs gb h h' => by
    have h1 := mulOwn_c As N cs _ (some ⟨gb, 0, none⟩) 1 1 [8] y.heap.size y h (wd_words _ _) (Rd.of_has h' h'.lt (by rfl) (by decide)) (words_of _ (by decide)) (Nat.le_refl _) (by omega) (by omega)
    have hb := BD.out (i + 1)
    rw [num_wd_of hb.1 (by have := HR.out; omega), show num [8] = 8 by decide] at h1
    refine h1.mono ?_
    rintro e y' ⟨A', c', he, ho, hb'⟩
    have hcap := ho.le_cap
    have hrd := ho.rd.take_ (m := N) (by omega)
    rw [wd_take] at hrd
    obtain ⟨g', rfl, -⟩ := ho.at_ (by omega)
    exact ⟨g', c', he, hcap, hrd, hb'⟩⟩
  have P3 : Keep (∀ (i : Nat) (zn : Int) (y : World) (As : Option Addr) (cs g : Nat), -dg 4 (nxs 4 i v) = zn → 0 ≤ zn → zn ≤ 4 → Rd y y.heap.size As N .u64 (wd N (nxs 4 (i + 1) v * 8)) → Has y g 23 (vals .u64 [zn]) → Calls Try.prog 34 #[.slice As N cs, .slice (some ⟨g, 0, none⟩) 1 1] y fun e y' => ∃ A' c' co, e = .returned (.tuple #[.slice A' N c', .int .u64 co]) ∧ Rd y' y'.heap.size A' N .u64 (wd N (nxs 4 i v)) ∧ Below y.heap.size y y') := ⟨fun i zn y As cs g hz hz0 hz1 h h' => by
    have h1 := sub_c As N cs _ (some ⟨g, 0, none⟩) 1 1 [zn] y.heap.size y h (wd_words _ _) (Rd.of_has h' h'.lt (by rfl) (by show 0 + 1 ≤ 1; omega)) (words_one hz0 (by omega)) (Nat.le_refl _) (by omega) (by omega)
    have hb := BD.out i
    have hb1 := BD.out (i + 1)
    have hs := ST.out i
    have hd := dg_bounds (H := 4) (v := nxs 4 i v) (by omega)
    have hr_ := HR.out
    have hn1 : num [zn] = zn := by rw [num_cons, num_nil]; omega
    have he : subL (wd N (nxs 4 (i + 1) v * 8)) [zn] = wd N (nxs 4 i v) := by
      rw [subL, wd_len, num_wd_of (by omega) (by omega), hn1, show max N [zn].length = N by simp; omega]
      congr 1
      omega
    rw [he, Nat.max_eq_left (by omega)] at h1
    refine h1.mono ?_
    rintro e y' ⟨A', c', he, ho, hb'⟩
    exact ⟨A', c', _, he, ho.rd, hb'⟩⟩
  have P4 : Keep (∀ (i : Nat) (zn : Int) (y : World) (As : Option Addr) (cs g : Nat), dg 4 (nxs 4 i v) = zn → 0 ≤ zn → zn ≤ 4 → Rd y y.heap.size As N .u64 (wd N (nxs 4 (i + 1) v * 8)) → Has y g 23 (vals .u64 [zn]) → Calls Try.prog 35 #[.slice As N cs, .slice (some ⟨g, 0, none⟩) 1 1] y fun e y' => ∃ A' c' co, e = .returned (.tuple #[.slice A' N c', .int .u64 co]) ∧ Rd y' y'.heap.size A' N .u64 (wd N (nxs 4 i v)) ∧ Below y.heap.size y y') := ⟨fun i zn y As cs g hz hz0 hz1 h h' => by
    have h1 := add_c As N cs _ (some ⟨g, 0, none⟩) 1 1 [zn] y.heap.size y h (wd_words _ _) (Rd.of_has h' h'.lt (by rfl) (by show 0 + 1 ≤ 1; omega)) (words_one hz0 (by omega)) (Nat.le_refl _) (by omega) (by omega)
    have hb := BD.out i
    have hb1 := BD.out (i + 1)
    have hs := ST.out i
    have hr_ := HR.out
    have hn1 : num [zn] = zn := by rw [num_cons, num_nil]; omega
    have he : addL (wd N (nxs 4 (i + 1) v * 8)) [zn] = wd N (nxs 4 i v) := by
      rw [addL, wd_len, num_wd_of (by omega) (by omega), hn1, show max N [zn].length = N by simp; omega]
      congr 1
      omega
    rw [he, Nat.max_eq_left (by omega)] at h1
    refine h1.mono ?_
    rintro e y' ⟨A', c', he, ho, hb'⟩
    exact ⟨A', c', _, he, ho.rd, hb'⟩⟩
  obtain ⟨z, hz⟩ : ∃ z, dg 4 (nxs 4 k v) = z := ⟨_, rfl⟩
  have hz0 : z ≠ 0 := by
    have h1 := ST.out k
    rw [h0, hz] at h1
    have h2 := hne k (by omega)
    omega
  have hz0' : (z == 0) = false := by rw [beq_eq_false_iff_ne]; exact hz0
  obtain ⟨K, hK⟩ : ∃ K, k + 1 = K := ⟨_, rfl⟩
  have hKi : (K : Int) - 1 = (k : Int) := by omega
  have hKp : 0 < K := by omega
  have hTN : nth (tab K (fun k => dg 4 (nxs 4 k v))) k = z := by rw [tab_nth _ (by omega)]; exact hz
  have HTN : Keep _ := ⟨hTN⟩
  have HTL : Keep ((tab K (fun k => dg 4 (nxs 4 k v))).length = K) := ⟨tab_len _ _⟩
  rw [hK] at P1 h0 hmq
  clear hTN hz hz0
  have hqm : K ≤ 64 * n / 3 + 1 := hmq
  obtain ⟨Q, hQ⟩ : ∃ Q, 64 * n / 3 = Q := ⟨_, rfl⟩
  have hQi : 64 * (n : Int) / 3 = (Q : Int) := by omega
  rw [hQ] at hqm
  have hQb : Q ≤ 400 := by omega
  have H0 : Keep (nxs 4 K v = 0) := ⟨h0⟩
  have hmk : ∀ w, (Instr.makeSlice 39 (.int .i64 N) (.int .i64 N)).run Try.prog w = .ok (.slice (some ⟨w.heap.size, 0, none⟩) N N) (w.alloc (.cells (vals .u64 (List.replicate N 0)) 23)) := fun w => run_make_vals w _ _ .u64 Try.underlying39 u64Elem .i64 .i64 N (by omega) (by omega)
  obtain ⟨S, hS⟩ : ∃ S, w.heap.size = S := ⟨_, rfl⟩
  have hsz0 : w.heap.size = S + 0 := hS
  have hb0 : Below S w w := Below.refl _ _
  have HSS : Keep (∀ x : World, Below S w x → S ≤ x.heap.size) := ⟨fun x hb => by have := hb.size; omega⟩
  rw [hS]
  have HRD : Keep (∀ x : World, Below S w x → Rd x x.heap.size A n .u64 l) := ⟨fun x hb => (hr.keep hb (by omega)).more (by have := HSS.out _ hb; omega)⟩
  clear hr hwl hds h0 hne hmq hlen hll hv0 hv hroom hmono hQ hN
  go_enter Try.func9, Try.ntmps9
  go_wp2_with (first
    | (have hq0 := hb1
       clear hq0
       go_at_call 30
       refine (P1.out _ (HRD.out _ hb1)).mono ?_
       rintro e w2 ⟨A3, c3, rfl, hrd, hq⟩
       have hb2 := hb1.trans (hq.mono (HSS.out _ hb1))
       have xd2 := hrd
       clear hrd
       obtain ⟨b3, o3, rfl, hlt3, hc3⟩ := xd2.at_ (by omega)
       have HDC : Keep (∀ x : World, Below w2.heap.size w2 x → ∀ j, j < K → x.cell? ⟨b3, o3 + j, none⟩ = some (.int .i64 (nth (tab K (fun k => dg 4 (nxs 4 k v))) j))) := ⟨fun x h j hj => (h.cell (p := ⟨b3, o3 + j, none⟩) hlt3).trans (hc3 j hj)⟩
       have c0 := hc3 k (by omega)
       rw [HTN.out] at c0
       clear hc3 xd2
       clear hq hb1 )
    | (have hq0 := hb0
       clear hq0
       go_at_call 11
       refine (awake_c _).mono ?_
       rintro e w1 ⟨rfl, hq⟩
       have hb1 := hb0.trans (hq.mono (HSS.out _ hb0))
       clear hq hb0 ))
  obtain ⟨gs, hgs⟩ : ∃ g, w2.heap.size = g := ⟨_, rfl⟩
  rw [hgs]
  have T2 : Keep (S ≤ gs) := ⟨by rw [← hgs]; exact HSS.out _ hb2⟩
  have qs3 : Has ((w2.alloc (.cells (vals .u64 (List.replicate N 0)) 23)).alloc (.cells (vals .u64 [8]) 23)) gs 23 (vals .u64 (List.replicate N 0)) := (Has.new' _ hgs.symm _ _).alloc _
  have qb3 : Has ((w2.alloc (.cells (vals .u64 (List.replicate N 0)) 23)).alloc (.cells (vals .u64 [8]) 23)) (gs + 1) 23 (vals .u64 [8]) := Has.new' _ (by simp only [World.size_alloc, hgs]) _ _
  have hb3 : Below w2.heap.size w2 ((w2.alloc (.cells (vals .u64 (List.replicate N 0)) 23)).alloc (.cells (vals .u64 [8]) 23)) := ((Below.refl _ _).alloc (Nat.le_refl _) _).alloc (by simp) _
  have rs3 : Rd ((w2.alloc (.cells (vals .u64 (List.replicate N 0)) 23)).alloc (.cells (vals .u64 [8]) 23)) ((w2.alloc (.cells (vals .u64 (List.replicate N 0)) 23)).alloc (.cells (vals .u64 [8]) 23)).heap.size (some ⟨gs, 0, none⟩) N .u64 (wd N (nxs 4 K v)) := by
    have e : List.replicate N 0 = wd N (nxs 4 K v) := by
      rw [H0.out]
      have h0 := wd_num (n := N) (words_zeros N) (by simp)
      rw [num_zeros] at h0
      exact h0.symm
    rw [← e]
    exact Rd.of_has qs3 qs3.lt (by rw [List.drop_zero, take_all (by simp)]) (by simp)
  have HB2 : Keep (Below S w w2) := ⟨hb2⟩
  have HSZ : Keep (S ≤ w2.heap.size) := ⟨HSS.out _ hb2⟩
  clear hb2 qs3 hmk
  go_loopg [9, 11] K (fun (gk : Nat) vs vi w10 => ∃ (As : Option Addr) (cs : Nat), gk ≤ K ∧ vs = .slice As N cs ∧ vi = .int .i64 ((gk : Int) - 1) ∧ Rd w10 w10.heap.size As N .u64 (wd N (nxs 4 gk v)) ∧ Has w10 (gs + 1) 23 (vals .u64 [8]) ∧ Below w2.heap.size w2 w10)
  case atStart => exact ⟨some ⟨gs, 0, none⟩, N, Nat.le_refl _, rfl, by first | rfl | (rw [hKi]) | go_num, rs3, qb3, hb3⟩
  case round =>
    clear rs3 qb3 hb3
    obtain ⟨As, cs, hk, rfl, rfl, rs10, qb10, hb10⟩ := hrel
    rcases gk with _ | i
    · have hbw := HB2.out.trans (hb10.mono HSZ.out)
      have ra := HRD.out _ hbw
      clear qb10
      go_wp2_with (go_at_call 36
                   refine (P5.out _ _ _ rs10 ra).mono ?_
                   rintro e w11 ⟨rfl, hq⟩
                   have hb11 := hbw.trans (hq.mono (HSS.out _ hbw)))
      go_ret
      exact ⟨rfl, hb11⟩
    · have e1 : ((i + 1 : Nat) : Int) - 1 = (i : Int) := by omega
      rw [e1]
      clear e1
      obtain ⟨y, hy⟩ : ∃ y, dg 4 (nxs 4 i v) = y := ⟨_, rfl⟩
      have hyb : -4 < y ∧ y ≤ 4 := by rw [← hy]; exact dg_bounds (by omega)
      have HY : Keep _ := ⟨hy⟩
      have HYC : Keep (∀ x : World, Below w2.heap.size w2 x → x.cell? ⟨b3, o3 + i, none⟩ = some (.int .i64 y)) := ⟨fun x h => by rw [HDC.out x h i (by omega), tab_nth _ (by omega)]; show some (Value.int IntKind.i64 (dg 4 (nxs 4 i v))) = _; rw [HY.out]⟩
      have c1 := HYC.out _ hb10
      have hKb : i < K := by omega
      clear hy
      by_cases hneg : y < 0
      · obtain ⟨zn, hzn⟩ : ∃ z, -y = z := ⟨_, rfl⟩
        have hznb : 0 < zn ∧ zn ≤ 4 := by omega
        have HZ : Keep (-dg 4 (nxs 4 i v) = zn) := ⟨by rw [HY.out]; exact hzn⟩
        go_wp2_with (first
          | (go_at_call 34
             have hal := (Below.refl w11.heap.size w11).alloc (Nat.le_refl _) (.cells (vals .u64 [zn]) 23)
             refine (P3.out i zn _ _ _ w11.heap.size HZ.out (by omega) (by omega) (rd_here rp11 hal) (Has.new _ _ _)).mono ?_
             rintro e w12 ⟨A5, c5, co, rfl, rs12, hq⟩
             have hbe := hal.trans (hq.mono hal.size)
             have qb12 := qb11.keep hbe
             have hb12 := hb11.trans (hbe.mono hb11.size)
             clear hal hq hbe rp11 qb11 hb11)
          | (go_at_call 33
             refine (P2.out i _ _ _ _ rs10 qb10).mono ?_
             rintro e w11 ⟨g4, c4, rfl, hc4, rp11, hq⟩
             have qb11 := qb10.keep hq
             have hb11 := hb10.trans (hq.mono hb10.size)
             have c2 := HYC.out _ hb11
             clear hq rs10 qb10 hb10 c1))
        go_roundg i
        case measure => omega
        case rel => exact ⟨A5, c5, by omega, rfl, by go_num, rs12, qb12, hb12⟩
      · have HZ : Keep (dg 4 (nxs 4 i v) = y) := ⟨HY.out⟩
        have hznb : 0 ≤ y ∧ y ≤ 4 := by omega
        go_wp2_with (first
          | (go_at_call 35
             have hal := (Below.refl w11.heap.size w11).alloc (Nat.le_refl _) (.cells (vals .u64 [y]) 23)
             refine (P4.out i y _ _ _ w11.heap.size HZ.out (by omega) (by omega) (rd_here rp11 hal) (Has.new _ _ _)).mono ?_
             rintro e w12 ⟨A5, c5, co, rfl, rs12, hq⟩
             have hbe := hal.trans (hq.mono hal.size)
             have qb12 := qb11.keep hbe
             have hb12 := hb11.trans (hbe.mono hb11.size)
             clear hal hq hbe rp11 qb11 hb11)
          | (go_at_call 33
             refine (P2.out i _ _ _ _ rs10 qb10).mono ?_
             rintro e w11 ⟨g4, c4, rfl, hc4, rp11, hq⟩
             have qb11 := qb10.keep hq
             have hb11 := hb10.trans (hq.mono hb10.size)
             have c2 := HYC.out _ hb11
             clear hq rs10 qb10 hb10 c1))
        go_roundg i
        case measure => omega
        case rel => exact ⟨A5, c5, by omega, rfl, by go_num, rs12, qb12, hb12⟩

set_option maxRecDepth 100000 in
set_option maxHeartbeats 4000000 in
theorem digits_3 (A : Option Addr) (n c : Nat) (l : List Int) (w : World) (hr : Rd w w.heap.size A n .u64 l) (hwl : Words l) (hn : n ≤ 12) : Calls Try.prog 9 #[.slice A n c, .int .i64 3] w fun e w' => e = .returned (.bool true) ∧ Below w.heap.size w w' := by
  obtain ⟨m, h1, h2, h3, h4, -⟩ := digs_shape (H := 4) (W := 3) rfl (by omega) (by omega) hwl hr.len
  rcases m with _ | k
  · exact digits_3_zero A n c l w hr hwl hn h1 h2 h3 h4
  · exact digits_3_some A n c l w hr hwl hn k h1 h2 h3 h4

set_option maxRecDepth 100000 in
set_option maxHeartbeats 4000000 in
theorem digits_4_zero (A : Option Addr) (n c : Nat) (l : List Int) (w : World) (hr : Rd w w.heap.size A n .u64 l) (hwl : Words l) (hn : n ≤ 12) (hds : digs 8 (64 * n) (num l) = tab 0 (fun k => dg 8 (nxs 8 k (num l)))) (h0 : nxs 8 0 (num l) = 0) (hne : ∀ j, j < 0 → nxs 8 j (num l) ≠ 0) (hmq : 0 ≤ 64 * n / 4 + 1) : Calls Try.prog 9 #[.slice A n c, .int .i64 4] w fun e w' => e = .returned (.bool true) ∧ Below w.heap.size w w' := by
  have hlen : (tab 0 (fun k => dg 8 (nxs 8 k (num l)))).length = 0 := tab_len _ _
  have hll := hr.len
  have hv0 := num_bounds hwl
  rw [hll] at hv0
  obtain ⟨v, hv⟩ : ∃ v, num l = v := ⟨_, rfl⟩
  have HV : Keep (num l = v) := ⟨hv⟩
  have HW : Keep (Words l) := ⟨hwl⟩
  obtain ⟨N, hN⟩ : ∃ N, n + 2 = N := ⟨_, rfl⟩
  have hNi : (n : Int) + 2 = (N : Int) := by omega
  have hNb : 2 ≤ N ∧ N ≤ 14 := by omega
  have hroom := wp_room n
  have hmono : wp (n + 1) ≤ wp N := by rw [← hN]; exact wp_le (by omega)
  rw [hv] at hds h0 hne hlen hv0
  have P1 : Keep (∀ y : World, Rd y y.heap.size A n .u64 l → Calls Try.prog 30 #[.slice A n c, .int .i64 4] y fun e y' => ∃ A' c', e = .returned (.tuple #[.slice A' 0 c', .int .i64 0]) ∧ Rd y' y'.heap.size A' 0 .i64 (tab 0 (fun k => dg 8 (nxs 8 k v))) ∧ Below y.heap.size y y') := ⟨fun y h => by
    have h1 := frWindows_4 A n c l y.heap.size y h hwl (Nat.le_refl _) (by omega)
    rw [HV.out, hds] at h1
    refine h1.mono ?_
    rintro e y' ⟨A', m', c', he, ho, hb⟩
    have hm' := ho.len
    rw [hlen] at hm'
    subst hm'
    exact ⟨A', c', he, ho.rd, hb⟩⟩
  have BD : Keep (∀ i, 0 ≤ nxs 8 i v ∧ nxs 8 i v < wp n) := ⟨fun i => by have := nxs_bounds (H := 8) (by omega) hv0.1 i; omega⟩
  have ST : Keep (∀ i, nxs 8 i v = dg 8 (nxs 8 i v) + 16 * nxs 8 (i + 1) v) := ⟨fun i => nx_eq (H := 8) (by omega)⟩
  have HR : Keep (wp n + 256 ≤ wp N) := ⟨by omega⟩
  have P5 : Keep (∀ (y : World) (As : Option Addr) (cs : Nat), Rd y y.heap.size As N .u64 (wd N (nxs 8 0 v)) → Rd y y.heap.size A n .u64 l → Calls Try.prog 36 #[.slice As N cs, .slice A n c] y fun e y' => e = .returned (.int .i64 0) ∧ Below y.heap.size y y') := ⟨fun y As cs h h' => by
    have h1 := cmp_c As N cs (wd N (nxs 8 0 v)) A n c l y.heap.size y h (wd_words _ _) h' hwl (Nat.le_refl _) (by omega) (by omega)
    have hb := BD.out 0
    have hz : cmpL (wd N (nxs 8 0 v)) l = 0 := by
      unfold cmpL
      rw [num_wd_of hb.1 (by have := HR.out; omega), HV.out]
      exact (if_neg (show ¬ v < v by omega)).trans (if_pos rfl)
    rw [hz] at h1
    exact h1⟩
  have hqm : 0 ≤ 64 * n / 4 + 1 := hmq
  obtain ⟨Q, hQ⟩ : ∃ Q, 64 * n / 4 = Q := ⟨_, rfl⟩
  have hQi : 64 * (n : Int) / 4 = (Q : Int) := by omega
  rw [hQ] at hqm
  have hQb : Q ≤ 400 := by omega
  have H0 : Keep (nxs 8 0 v = 0) := ⟨h0⟩
  have hmk : ∀ w, (Instr.makeSlice 39 (.int .i64 N) (.int .i64 N)).run Try.prog w = .ok (.slice (some ⟨w.heap.size, 0, none⟩) N N) (w.alloc (.cells (vals .u64 (List.replicate N 0)) 23)) := fun w => run_make_vals w _ _ .u64 Try.underlying39 u64Elem .i64 .i64 N (by omega) (by omega)
  obtain ⟨S, hS⟩ : ∃ S, w.heap.size = S := ⟨_, rfl⟩
  have hsz0 : w.heap.size = S + 0 := hS
  have hb0 : Below S w w := Below.refl _ _
  have HSS : Keep (∀ x : World, Below S w x → S ≤ x.heap.size) := ⟨fun x hb => by have := hb.size; omega⟩
  rw [hS]
  have HRD : Keep (∀ x : World, Below S w x → Rd x x.heap.size A n .u64 l) := ⟨fun x hb => (hr.keep hb (by omega)).more (by have := HSS.out _ hb; omega)⟩
  clear hr hwl hds h0 hne hmq hlen hll hv0 hv hroom hmono hQ hN
  go_enter Try.func9, Try.ntmps9
  go_wp2_with (first
    | (have hq0 := hb1
       clear hq0
       go_at_call 30
       refine (P1.out _ (HRD.out _ hb1)).mono ?_
       rintro e w2 ⟨A3, c3, rfl, hrd, hq⟩
       have hb2 := hb1.trans (hq.mono (HSS.out _ hb1))
       have xd2 := hrd
       clear hrd
       clear hq hb1 )
    | (have hq0 := hb0
       clear hq0
       go_at_call 11
       refine (awake_c _).mono ?_
       rintro e w1 ⟨rfl, hq⟩
       have hb1 := hb0.trans (hq.mono (HSS.out _ hb0))
       clear hq hb0 ))
  obtain ⟨gs, hgs⟩ : ∃ g, w2.heap.size = g := ⟨_, rfl⟩
  rw [hgs]
  have T2 : Keep (S ≤ gs) := ⟨by rw [← hgs]; exact HSS.out _ hb2⟩
  have qs3 : Has ((w2.alloc (.cells (vals .u64 (List.replicate N 0)) 23)).alloc (.cells (vals .u64 [16]) 23)) gs 23 (vals .u64 (List.replicate N 0)) := (Has.new' _ hgs.symm _ _).alloc _
  have qb3 : Has ((w2.alloc (.cells (vals .u64 (List.replicate N 0)) 23)).alloc (.cells (vals .u64 [16]) 23)) (gs + 1) 23 (vals .u64 [16]) := Has.new' _ (by simp only [World.size_alloc, hgs]) _ _
  have hb3 : Below w2.heap.size w2 ((w2.alloc (.cells (vals .u64 (List.replicate N 0)) 23)).alloc (.cells (vals .u64 [16]) 23)) := ((Below.refl _ _).alloc (Nat.le_refl _) _).alloc (by simp) _
  have rs3 : Rd ((w2.alloc (.cells (vals .u64 (List.replicate N 0)) 23)).alloc (.cells (vals .u64 [16]) 23)) ((w2.alloc (.cells (vals .u64 (List.replicate N 0)) 23)).alloc (.cells (vals .u64 [16]) 23)).heap.size (some ⟨gs, 0, none⟩) N .u64 (wd N (nxs 8 0 v)) := by
    have e : List.replicate N 0 = wd N (nxs 8 0 v) := by
      rw [H0.out]
      have h0 := wd_num (n := N) (words_zeros N) (by simp)
      rw [num_zeros] at h0
      exact h0.symm
    rw [← e]
    exact Rd.of_has qs3 qs3.lt (by rw [List.drop_zero, take_all (by simp)]) (by simp)
  have HB2 : Keep (Below S w w2) := ⟨hb2⟩
  have HSZ : Keep (S ≤ w2.heap.size) := ⟨HSS.out _ hb2⟩
  clear hb2 qs3 hmk
  go_loopg [9, 11] 0 (fun (gk : Nat) vs vi w10 => ∃ (As : Option Addr) (cs : Nat), gk ≤ 0 ∧ vs = .slice As N cs ∧ vi = .int .i64 ((gk : Int) - 1) ∧ Rd w10 w10.heap.size As N .u64 (wd N (nxs 8 gk v)) ∧ Has w10 (gs + 1) 23 (vals .u64 [16]) ∧ Below w2.heap.size w2 w10)
  case atStart => exact ⟨some ⟨gs, 0, none⟩, N, Nat.le_refl _, rfl, by go_num, rs3, qb3, hb3⟩
  case round =>
    clear rs3 qb3 hb3
    obtain ⟨As, cs, hk, rfl, rfl, rs10, qb10, hb10⟩ := hrel
    rcases gk with _ | i
    · have hbw := HB2.out.trans (hb10.mono HSZ.out)
      have ra := HRD.out _ hbw
      clear qb10
      go_wp2_with (go_at_call 36
                   refine (P5.out _ _ _ rs10 ra).mono ?_
                   rintro e w11 ⟨rfl, hq⟩
                   have hb11 := hbw.trans (hq.mono (HSS.out _ hbw)))
      go_ret
      exact ⟨rfl, hb11⟩
    · exact absurd hk (by omega)

set_option maxRecDepth 100000 in
set_option maxHeartbeats 4000000 in
theorem digits_4_some (A : Option Addr) (n c : Nat) (l : List Int) (w : World) (hr : Rd w w.heap.size A n .u64 l) (hwl : Words l) (hn : n ≤ 12) (k : Nat) (hds : digs 8 (64 * n) (num l) = tab (k + 1) (fun k => dg 8 (nxs 8 k (num l)))) (h0 : nxs 8 (k + 1) (num l) = 0) (hne : ∀ j, j < (k + 1) → nxs 8 j (num l) ≠ 0) (hmq : (k + 1) ≤ 64 * n / 4 + 1) : Calls Try.prog 9 #[.slice A n c, .int .i64 4] w fun e w' => e = .returned (.bool true) ∧ Below w.heap.size w w' := by
  have hlen : (tab (k + 1) (fun k => dg 8 (nxs 8 k (num l)))).length = (k + 1) := tab_len _ _
  have hll := hr.len
  have hv0 := num_bounds hwl
  rw [hll] at hv0
  obtain ⟨v, hv⟩ : ∃ v, num l = v := ⟨_, rfl⟩
  have HV : Keep (num l = v) := ⟨hv⟩
  have HW : Keep (Words l) := ⟨hwl⟩
  obtain ⟨N, hN⟩ : ∃ N, n + 2 = N := ⟨_, rfl⟩
  have hNi : (n : Int) + 2 = (N : Int) := by omega
  have hNb : 2 ≤ N ∧ N ≤ 14 := by omega
  have hroom := wp_room n
  have hmono : wp (n + 1) ≤ wp N := by rw [← hN]; exact wp_le (by omega)
  rw [hv] at hds h0 hne hlen hv0
  have P1 : Keep (∀ y : World, Rd y y.heap.size A n .u64 l → Calls Try.prog 30 #[.slice A n c, .int .i64 4] y fun e y' => ∃ A' c', e = .returned (.tuple #[.slice A' (k + 1) c', .int .i64 0]) ∧ Rd y' y'.heap.size A' (k + 1) .i64 (tab (k + 1) (fun k => dg 8 (nxs 8 k v))) ∧ Below y.heap.size y y') := ⟨fun y h => by
    have h1 := frWindows_4 A n c l y.heap.size y h hwl (Nat.le_refl _) (by omega)
    rw [HV.out, hds] at h1
    refine h1.mono ?_
    rintro e y' ⟨A', m', c', he, ho, hb⟩
    have hm' := ho.len
    rw [hlen] at hm'
    subst hm'
    exact ⟨A', c', he, ho.rd, hb⟩⟩
  have BD : Keep (∀ i, 0 ≤ nxs 8 i v ∧ nxs 8 i v < wp n) := ⟨fun i => by have := nxs_bounds (H := 8) (by omega) hv0.1 i; omega⟩
  have ST : Keep (∀ i, nxs 8 i v = dg 8 (nxs 8 i v) + 16 * nxs 8 (i + 1) v) := ⟨fun i => nx_eq (H := 8) (by omega)⟩
  have HR : Keep (wp n + 256 ≤ wp N) := ⟨by omega⟩
  have P5 : Keep (∀ (y : World) (As : Option Addr) (cs : Nat), Rd y y.heap.size As N .u64 (wd N (nxs 8 0 v)) → Rd y y.heap.size A n .u64 l → Calls Try.prog 36 #[.slice As N cs, .slice A n c] y fun e y' => e = .returned (.int .i64 0) ∧ Below y.heap.size y y') := ⟨fun y As cs h h' => by
    have h1 := cmp_c As N cs (wd N (nxs 8 0 v)) A n c l y.heap.size y h (wd_words _ _) h' hwl (Nat.le_refl _) (by omega) (by omega)
    have hb := BD.out 0
    have hz : cmpL (wd N (nxs 8 0 v)) l = 0 := by
      unfold cmpL
      rw [num_wd_of hb.1 (by have := HR.out; omega), HV.out]
      exact (if_neg (show ¬ v < v by omega)).trans (if_pos rfl)
    rw [hz] at h1
    exact h1⟩
  have P2 : Keep (∀ (i : Nat) (y : World) (As : Option Addr) (cs gb : Nat), Rd y y.heap.size As N .u64 (wd N (nxs 8 (i + 1) v)) → Has y gb 23 (vals .u64 [16]) → Calls Try.prog 33 #[.slice As N cs, .slice (some ⟨gb, 0, none⟩) 1 1] y fun e y' => ∃ g' c', e = .returned (.slice (some ⟨g', 0, none⟩) (N + 1) c') ∧ N + 1 ≤ c' ∧ Rd y' y'.heap.size (some ⟨g', 0, none⟩) N .u64 (wd N (nxs 8 (i + 1) v * 16)) ∧ Below y.heap.size y y') := ⟨fun i y As cs gb h h' => by
    have h1 := mulOwn_c As N cs _ (some ⟨gb, 0, none⟩) 1 1 [16] y.heap.size y h (wd_words _ _) (Rd.of_has h' h'.lt (by rfl) (by decide)) (words_of _ (by decide)) (Nat.le_refl _) (by omega) (by omega)
    have hb := BD.out (i + 1)
    rw [num_wd_of hb.1 (by have := HR.out; omega), show num [16] = 16 by decide] at h1
    refine h1.mono ?_
    rintro e y' ⟨A', c', he, ho, hb'⟩
    have hcap := ho.le_cap
    have hrd := ho.rd.take_ (m := N) (by omega)
    rw [wd_take] at hrd
    obtain ⟨g', rfl, -⟩ := ho.at_ (by omega)
    exact ⟨g', c', he, hcap, hrd, hb'⟩⟩
  have P3 : Keep (∀ (i : Nat) (zn : Int) (y : World) (As : Option Addr) (cs g : Nat), -dg 8 (nxs 8 i v) = zn → 0 ≤ zn → zn ≤ 8 → Rd y y.heap.size As N .u64 (wd N (nxs 8 (i + 1) v * 16)) → Has y g 23 (vals .u64 [zn]) → Calls Try.prog 34 #[.slice As N cs, .slice (some ⟨g, 0, none⟩) 1 1] y fun e y' => ∃ A' c' co, e = .returned (.tuple #[.slice A' N c', .int .u64 co]) ∧ Rd y' y'.heap.size A' N .u64 (wd N (nxs 8 i v)) ∧ Below y.heap.size y y') := ⟨fun i zn y As cs g hz hz0 hz1 h h' => by
    have h1 := sub_c As N cs _ (some ⟨g, 0, none⟩) 1 1 [zn] y.heap.size y h (wd_words _ _) (Rd.of_has h' h'.lt (by rfl) (by show 0 + 1 ≤ 1; omega)) (words_one hz0 (by omega)) (Nat.le_refl _) (by omega) (by omega)
    have hb := BD.out i
    have hb1 := BD.out (i + 1)
    have hs := ST.out i
    have hd := dg_bounds (H := 8) (v := nxs 8 i v) (by omega)
    have hr_ := HR.out
    have hn1 : num [zn] = zn := by rw [num_cons, num_nil]; omega
    have he : subL (wd N (nxs 8 (i + 1) v * 16)) [zn] = wd N (nxs 8 i v) := by
      rw [subL, wd_len, num_wd_of (by omega) (by omega), hn1, show max N [zn].length = N by simp; omega]
      congr 1
      omega
    rw [he, Nat.max_eq_left (by omega)] at h1
    refine h1.mono ?_
    rintro e y' ⟨A', c', he, ho, hb'⟩
    exact ⟨A', c', _, he, ho.rd, hb'⟩⟩
  have P4 : Keep (∀ (i : Nat) (zn : Int) (y : World) (As : Option Addr) (cs g : Nat), dg 8 (nxs 8 i v) = zn → 0 ≤ zn → zn ≤ 8 → Rd y y.heap.size As N .u64 (wd N (nxs 8 (i + 1) v * 16)) → Has y g 23 (vals .u64 [zn]) → Calls Try.prog 35 #[.slice As N cs, .slice (some ⟨g, 0, none⟩) 1 1] y fun e y' => ∃ A' c' co, e = .returned (.tuple #[.slice A' N c', .int .u64 co]) ∧ Rd y' y'.heap.size A' N .u64 (wd N (nxs 8 i v)) ∧ Below y.heap.size y y') := ⟨fun i zn y As cs g hz hz0 hz1 h h' => by
    have h1 := add_c As N cs _ (some ⟨g, 0, none⟩) 1 1 [zn] y.heap.size y h (wd_words _ _) (Rd.of_has h' h'.lt (by rfl) (by show 0 + 1 ≤ 1; omega)) (words_one hz0 (by omega)) (Nat.le_refl _) (by omega) (by omega)
    have hb := BD.out i
    have hb1 := BD.out (i + 1)
    have hs := ST.out i
    have hr_ := HR.out
    have hn1 : num [zn] = zn := by rw [num_cons, num_nil]; omega
    have he : addL (wd N (nxs 8 (i + 1) v * 16)) [zn] = wd N (nxs 8 i v) := by
      rw [addL, wd_len, num_wd_of (by omega) (by omega), hn1, show max N [zn].length = N by simp; omega]
      congr 1
      omega
    rw [he, Nat.max_eq_left (by omega)] at h1
    refine h1.mono ?_
    rintro e y' ⟨A', c', he, ho, hb'⟩
    exact ⟨A', c', _, he, ho.rd, hb'⟩⟩
  obtain ⟨z, hz⟩ : ∃ z, dg 8 (nxs 8 k v) = z := ⟨_, rfl⟩
  have hz0 : z ≠ 0 := by
    have h1 := ST.out k
    rw [h0, hz] at h1
    have h2 := hne k (by omega)
    omega
  have hz0' : (z == 0) = false := by rw [beq_eq_false_iff_ne]; exact hz0
  obtain ⟨K, hK⟩ : ∃ K, k + 1 = K := ⟨_, rfl⟩
  have hKi : (K : Int) - 1 = (k : Int) := by omega
  have hKp : 0 < K := by omega
  have hTN : nth (tab K (fun k => dg 8 (nxs 8 k v))) k = z := by rw [tab_nth _ (by omega)]; exact hz
  have HTN : Keep _ := ⟨hTN⟩
  have HTL : Keep ((tab K (fun k => dg 8 (nxs 8 k v))).length = K) := ⟨tab_len _ _⟩
  rw [hK] at P1 h0 hmq
  clear hTN hz hz0
  have hqm : K ≤ 64 * n / 4 + 1 := hmq
  obtain ⟨Q, hQ⟩ : ∃ Q, 64 * n / 4 = Q := ⟨_, rfl⟩
  have hQi : 64 * (n : Int) / 4 = (Q : Int) := by omega
  rw [hQ] at hqm
  have hQb : Q ≤ 400 := by omega
  have H0 : Keep (nxs 8 K v = 0) := ⟨h0⟩
  have hmk : ∀ w, (Instr.makeSlice 39 (.int .i64 N) (.int .i64 N)).run Try.prog w = .ok (.slice (some ⟨w.heap.size, 0, none⟩) N N) (w.alloc (.cells (vals .u64 (List.replicate N 0)) 23)) := fun w => run_make_vals w _ _ .u64 Try.underlying39 u64Elem .i64 .i64 N (by omega) (by omega)
  obtain ⟨S, hS⟩ : ∃ S, w.heap.size = S := ⟨_, rfl⟩
  have hsz0 : w.heap.size = S + 0 := hS
  have hb0 : Below S w w := Below.refl _ _
  have HSS : Keep (∀ x : World, Below S w x → S ≤ x.heap.size) := ⟨fun x hb => by have := hb.size; omega⟩
  rw [hS]
  have HRD : Keep (∀ x : World, Below S w x → Rd x x.heap.size A n .u64 l) := ⟨fun x hb => (hr.keep hb (by omega)).more (by have := HSS.out _ hb; omega)⟩
  clear hr hwl hds h0 hne hmq hlen hll hv0 hv hroom hmono hQ hN
  go_enter Try.func9, Try.ntmps9
  go_wp2_with (first
    | (have hq0 := hb1
       clear hq0
       go_at_call 30
       refine (P1.out _ (HRD.out _ hb1)).mono ?_
       rintro e w2 ⟨A3, c3, rfl, hrd, hq⟩
       have hb2 := hb1.trans (hq.mono (HSS.out _ hb1))
       have xd2 := hrd
       clear hrd
       obtain ⟨b3, o3, rfl, hlt3, hc3⟩ := xd2.at_ (by omega)
       have HDC : Keep (∀ x : World, Below w2.heap.size w2 x → ∀ j, j < K → x.cell? ⟨b3, o3 + j, none⟩ = some (.int .i64 (nth (tab K (fun k => dg 8 (nxs 8 k v))) j))) := ⟨fun x h j hj => (h.cell (p := ⟨b3, o3 + j, none⟩) hlt3).trans (hc3 j hj)⟩
       have c0 := hc3 k (by omega)
       rw [HTN.out] at c0
       clear hc3 xd2
       clear hq hb1 )
    | (have hq0 := hb0
       clear hq0
       go_at_call 11
       refine (awake_c _).mono ?_
       rintro e w1 ⟨rfl, hq⟩
       have hb1 := hb0.trans (hq.mono (HSS.out _ hb0))
       clear hq hb0 ))
  obtain ⟨gs, hgs⟩ : ∃ g, w2.heap.size = g := ⟨_, rfl⟩
  rw [hgs]
  have T2 : Keep (S ≤ gs) := ⟨by rw [← hgs]; exact HSS.out _ hb2⟩
  have qs3 : Has ((w2.alloc (.cells (vals .u64 (List.replicate N 0)) 23)).alloc (.cells (vals .u64 [16]) 23)) gs 23 (vals .u64 (List.replicate N 0)) := (Has.new' _ hgs.symm _ _).alloc _
  have qb3 : Has ((w2.alloc (.cells (vals .u64 (List.replicate N 0)) 23)).alloc (.cells (vals .u64 [16]) 23)) (gs + 1) 23 (vals .u64 [16]) := Has.new' _ (by simp only [World.size_alloc, hgs]) _ _
  have hb3 : Below w2.heap.size w2 ((w2.alloc (.cells (vals .u64 (List.replicate N 0)) 23)).alloc (.cells (vals .u64 [16]) 23)) := ((Below.refl _ _).alloc (Nat.le_refl _) _).alloc (by simp) _
  have rs3 : Rd ((w2.alloc (.cells (vals .u64 (List.replicate N 0)) 23)).alloc (.cells (vals .u64 [16]) 23)) ((w2.alloc (.cells (vals .u64 (List.replicate N 0)) 23)).alloc (.cells (vals .u64 [16]) 23)).heap.size (some ⟨gs, 0, none⟩) N .u64 (wd N (nxs 8 K v)) := by
    have e : List.replicate N 0 = wd N (nxs 8 K v) := by
      rw [H0.out]
      have h0 := wd_num (n := N) (words_zeros N) (by simp)
      rw [num_zeros] at h0
      exact h0.symm
    rw [← e]
    exact Rd.of_has qs3 qs3.lt (by rw [List.drop_zero, take_all (by simp)]) (by simp)
  have HB2 : Keep (Below S w w2) := ⟨hb2⟩
  have HSZ : Keep (S ≤ w2.heap.size) := ⟨HSS.out _ hb2⟩
  clear hb2 qs3 hmk
  go_loopg [9, 11] K (fun (gk : Nat) vs vi w10 => ∃ (As : Option Addr) (cs : Nat), gk ≤ K ∧ vs = .slice As N cs ∧ vi = .int .i64 ((gk : Int) - 1) ∧ Rd w10 w10.heap.size As N .u64 (wd N (nxs 8 gk v)) ∧ Has w10 (gs + 1) 23 (vals .u64 [16]) ∧ Below w2.heap.size w2 w10)
  case atStart => exact ⟨some ⟨gs, 0, none⟩, N, Nat.le_refl _, rfl, by first | rfl | (rw [hKi]) | go_num, rs3, qb3, hb3⟩
  case round =>
    clear rs3 qb3 hb3
    obtain ⟨As, cs, hk, rfl, rfl, rs10, qb10, hb10⟩ := hrel
    rcases gk with _ | i
    · have hbw := HB2.out.trans (hb10.mono HSZ.out)
      have ra := HRD.out _ hbw
      clear qb10
      go_wp2_with (go_at_call 36
                   refine (P5.out _ _ _ rs10 ra).mono ?_
                   rintro e w11 ⟨rfl, hq⟩
                   have hb11 := hbw.trans (hq.mono (HSS.out _ hbw)))
      go_ret
      exact ⟨rfl, hb11⟩
    · have e1 : ((i + 1 : Nat) : Int) - 1 = (i : Int) := by omega
      rw [e1]
      clear e1
      obtain ⟨y, hy⟩ : ∃ y, dg 8 (nxs 8 i v) = y := ⟨_, rfl⟩
      have hyb : -8 < y ∧ y ≤ 8 := by rw [← hy]; exact dg_bounds (by omega)
      have HY : Keep _ := ⟨hy⟩
      have HYC : Keep (∀ x : World, Below w2.heap.size w2 x → x.cell? ⟨b3, o3 + i, none⟩ = some (.int .i64 y)) := ⟨fun x h => by rw [HDC.out x h i (by omega), tab_nth _ (by omega)]; show some (Value.int IntKind.i64 (dg 8 (nxs 8 i v))) = _; rw [HY.out]⟩
      have c1 := HYC.out _ hb10
      have hKb : i < K := by omega
      clear hy
      by_cases hneg : y < 0
      · obtain ⟨zn, hzn⟩ : ∃ z, -y = z := ⟨_, rfl⟩
        have hznb : 0 < zn ∧ zn ≤ 8 := by omega
        have HZ : Keep (-dg 8 (nxs 8 i v) = zn) := ⟨by rw [HY.out]; exact hzn⟩
        go_wp2_with (first
          | (go_at_call 34
             have hal := (Below.refl w11.heap.size w11).alloc (Nat.le_refl _) (.cells (vals .u64 [zn]) 23)
             refine (P3.out i zn _ _ _ w11.heap.size HZ.out (by omega) (by omega) (rd_here rp11 hal) (Has.new _ _ _)).mono ?_
             rintro e w12 ⟨A5, c5, co, rfl, rs12, hq⟩
             have hbe := hal.trans (hq.mono hal.size)
             have qb12 := qb11.keep hbe
             have hb12 := hb11.trans (hbe.mono hb11.size)
             clear hal hq hbe rp11 qb11 hb11)
          | (go_at_call 33
             refine (P2.out i _ _ _ _ rs10 qb10).mono ?_
             rintro e w11 ⟨g4, c4, rfl, hc4, rp11, hq⟩
             have qb11 := qb10.keep hq
             have hb11 := hb10.trans (hq.mono hb10.size)
             have c2 := HYC.out _ hb11
             clear hq rs10 qb10 hb10 c1))
        go_roundg i
        case measure => omega
        case rel => exact ⟨A5, c5, by omega, rfl, by go_num, rs12, qb12, hb12⟩
      · have HZ : Keep (dg 8 (nxs 8 i v) = y) := ⟨HY.out⟩
        have hznb : 0 ≤ y ∧ y ≤ 8 := by omega
        go_wp2_with (first
          | (go_at_call 35
             have hal := (Below.refl w11.heap.size w11).alloc (Nat.le_refl _) (.cells (vals .u64 [y]) 23)
             refine (P4.out i y _ _ _ w11.heap.size HZ.out (by omega) (by omega) (rd_here rp11 hal) (Has.new _ _ _)).mono ?_
             rintro e w12 ⟨A5, c5, co, rfl, rs12, hq⟩
             have hbe := hal.trans (hq.mono hal.size)
             have qb12 := qb11.keep hbe
             have hb12 := hb11.trans (hbe.mono hb11.size)
             clear hal hq hbe rp11 qb11 hb11)
          | (go_at_call 33
             refine (P2.out i _ _ _ _ rs10 qb10).mono ?_
             rintro e w11 ⟨g4, c4, rfl, hc4, rp11, hq⟩
             have qb11 := qb10.keep hq
             have hb11 := hb10.trans (hq.mono hb10.size)
             have c2 := HYC.out _ hb11
             clear hq rs10 qb10 hb10 c1))
        go_roundg i
        case measure => omega
        case rel => exact ⟨A5, c5, by omega, rfl, by go_num, rs12, qb12, hb12⟩

set_option maxRecDepth 100000 in
set_option maxHeartbeats 4000000 in
theorem digits_4 (A : Option Addr) (n c : Nat) (l : List Int) (w : World) (hr : Rd w w.heap.size A n .u64 l) (hwl : Words l) (hn : n ≤ 12) : Calls Try.prog 9 #[.slice A n c, .int .i64 4] w fun e w' => e = .returned (.bool true) ∧ Below w.heap.size w w' := by
  obtain ⟨m, h1, h2, h3, h4, -⟩ := digs_shape (H := 8) (W := 4) rfl (by omega) (by omega) hwl hr.len
  rcases m with _ | k
  · exact digits_4_zero A n c l w hr hwl hn h1 h2 h3 h4
  · exact digits_4_some A n c l w hr hwl hn k h1 h2 h3 h4

set_option maxRecDepth 100000 in
set_option maxHeartbeats 4000000 in
theorem digits_5_zero (A : Option Addr) (n c : Nat) (l : List Int) (w : World) (hr : Rd w w.heap.size A n .u64 l) (hwl : Words l) (hn : n ≤ 12) (hds : digs 16 (64 * n) (num l) = tab 0 (fun k => dg 16 (nxs 16 k (num l)))) (h0 : nxs 16 0 (num l) = 0) (hne : ∀ j, j < 0 → nxs 16 j (num l) ≠ 0) (hmq : 0 ≤ 64 * n / 5 + 1) : Calls Try.prog 9 #[.slice A n c, .int .i64 5] w fun e w' => e = .returned (.bool true) ∧ Below w.heap.size w w' := by
  have hlen : (tab 0 (fun k => dg 16 (nxs 16 k (num l)))).length = 0 := tab_len _ _
  have hll := hr.len
  have hv0 := num_bounds hwl
  rw [hll] at hv0
  obtain ⟨v, hv⟩ : ∃ v, num l = v := ⟨_, rfl⟩
  have HV : Keep (num l = v) := ⟨hv⟩
  have HW : Keep (Words l) := ⟨hwl⟩
  obtain ⟨N, hN⟩ : ∃ N, n + 2 = N := ⟨_, rfl⟩
  have hNi : (n : Int) + 2 = (N : Int) := by omega
  have hNb : 2 ≤ N ∧ N ≤ 14 := by omega
  have hroom := wp_room n
  have hmono : wp (n + 1) ≤ wp N := by rw [← hN]; exact wp_le (by omega)
  rw [hv] at hds h0 hne hlen hv0
  have P1 : Keep (∀ y : World, Rd y y.heap.size A n .u64 l → Calls Try.prog 30 #[.slice A n c, .int .i64 5] y fun e y' => ∃ A' c', e = .returned (.tuple #[.slice A' 0 c', .int .i64 0]) ∧ Rd y' y'.heap.size A' 0 .i64 (tab 0 (fun k => dg 16 (nxs 16 k v))) ∧ Below y.heap.size y y') := ⟨fun y h => by
    have h1 := frWindows_5 A n c l y.heap.size y h hwl (Nat.le_refl _) (by omega)
    rw [HV.out, hds] at h1
    refine h1.mono ?_
    rintro e y' ⟨A', m', c', he, ho, hb⟩
    have hm' := ho.len
    rw [hlen] at hm'
    subst hm'
    exact ⟨A', c', he, ho.rd, hb⟩⟩
  have BD : Keep (∀ i, 0 ≤ nxs 16 i v ∧ nxs 16 i v < wp n) := ⟨fun i => by have := nxs_bounds (H := 16) (by omega) hv0.1 i; omega⟩
  have ST : Keep (∀ i, nxs 16 i v = dg 16 (nxs 16 i v) + 32 * nxs 16 (i + 1) v) := ⟨fun i => nx_eq (H := 16) (by omega)⟩
  have HR : Keep (wp n + 256 ≤ wp N) := ⟨by omega⟩
  have P5 : Keep (∀ (y : World) (As : Option Addr) (cs : Nat), Rd y y.heap.size As N .u64 (wd N (nxs 16 0 v)) → Rd y y.heap.size A n .u64 l → Calls Try.prog 36 #[.slice As N cs, .slice A n c] y fun e y' => e = .returned (.int .i64 0) ∧ Below y.heap.size y y') := ⟨fun y As cs h h' => by
    have h1 := cmp_c As N cs (wd N (nxs 16 0 v)) A n c l y.heap.size y h (wd_words _ _) h' hwl (Nat.le_refl _) (by omega) (by omega)
    have hb := BD.out 0
    have hz : cmpL (wd N (nxs 16 0 v)) l = 0 := by
      unfold cmpL
      rw [num_wd_of hb.1 (by have := HR.out; omega), HV.out]
      exact (if_neg (show ¬ v < v by omega)).trans (if_pos rfl)
    rw [hz] at h1
    exact h1⟩
  have hqm : 0 ≤ 64 * n / 5 + 1 := hmq
  obtain ⟨Q, hQ⟩ : ∃ Q, 64 * n / 5 = Q := ⟨_, rfl⟩
  have hQi : 64 * (n : Int) / 5 = (Q : Int) := by omega
  rw [hQ] at hqm
  have hQb : Q ≤ 400 := by omega
  have H0 : Keep (nxs 16 0 v = 0) := ⟨h0⟩
  have hmk : ∀ w, (Instr.makeSlice 39 (.int .i64 N) (.int .i64 N)).run Try.prog w = .ok (.slice (some ⟨w.heap.size, 0, none⟩) N N) (w.alloc (.cells (vals .u64 (List.replicate N 0)) 23)) := fun w => run_make_vals w _ _ .u64 Try.underlying39 u64Elem .i64 .i64 N (by omega) (by omega)
  obtain ⟨S, hS⟩ : ∃ S, w.heap.size = S := ⟨_, rfl⟩
  have hsz0 : w.heap.size = S + 0 := hS
  have hb0 : Below S w w := Below.refl _ _
  have HSS : Keep (∀ x : World, Below S w x → S ≤ x.heap.size) := ⟨fun x hb => by have := hb.size; omega⟩
  rw [hS]
  have HRD : Keep (∀ x : World, Below S w x → Rd x x.heap.size A n .u64 l) := ⟨fun x hb => (hr.keep hb (by omega)).more (by have := HSS.out _ hb; omega)⟩
  clear hr hwl hds h0 hne hmq hlen hll hv0 hv hroom hmono hQ hN
  go_enter Try.func9, Try.ntmps9
  go_wp2_with (first
    | (have hq0 := hb1
       clear hq0
       go_at_call 30
       refine (P1.out _ (HRD.out _ hb1)).mono ?_
       rintro e w2 ⟨A3, c3, rfl, hrd, hq⟩
       have hb2 := hb1.trans (hq.mono (HSS.out _ hb1))
       have xd2 := hrd
       clear hrd
       clear hq hb1 )
    | (have hq0 := hb0
       clear hq0
       go_at_call 11
       refine (awake_c _).mono ?_
       rintro e w1 ⟨rfl, hq⟩
       have hb1 := hb0.trans (hq.mono (HSS.out _ hb0))
       clear hq hb0 ))
  obtain ⟨gs, hgs⟩ : ∃ g, w2.heap.size = g := ⟨_, rfl⟩
  rw [hgs]
  have T2 : Keep (S ≤ gs) := ⟨by rw [← hgs]; exact HSS.out _ hb2⟩
  have qs3 : Has ((w2.alloc (.cells (vals .u64 (List.replicate N 0)) 23)).alloc (.cells (vals .u64 [32]) 23)) gs 23 (vals .u64 (List.replicate N 0)) := (Has.new' _ hgs.symm _ _).alloc _
  have qb3 : Has ((w2.alloc (.cells (vals .u64 (List.replicate N 0)) 23)).alloc (.cells (vals .u64 [32]) 23)) (gs + 1) 23 (vals .u64 [32]) := Has.new' _ (by simp only [World.size_alloc, hgs]) _ _
  have hb3 : Below w2.heap.size w2 ((w2.alloc (.cells (vals .u64 (List.replicate N 0)) 23)).alloc (.cells (vals .u64 [32]) 23)) := ((Below.refl _ _).alloc (Nat.le_refl _) _).alloc (by simp) _
  have rs3 : Rd ((w2.alloc (.cells (vals .u64 (List.replicate N 0)) 23)).alloc (.cells (vals .u64 [32]) 23)) ((w2.alloc (.cells (vals .u64 (List.replicate N 0)) 23)).alloc (.cells (vals .u64 [32]) 23)).heap.size (some ⟨gs, 0, none⟩) N .u64 (wd N (nxs 16 0 v)) := by
    have e : List.replicate N 0 = wd N (nxs 16 0 v) := by
      rw [H0.out]
      have h0 := wd_num (n := N) (words_zeros N) (by simp)
      rw [num_zeros] at h0
      exact h0.symm
    rw [← e]
    exact Rd.of_has qs3 qs3.lt (by rw [List.drop_zero, take_all (by simp)]) (by simp)
  have HB2 : Keep (Below S w w2) := ⟨hb2⟩
  have HSZ : Keep (S ≤ w2.heap.size) := ⟨HSS.out _ hb2⟩
  clear hb2 qs3 hmk
  go_loopg [9, 11] 0 (fun (gk : Nat) vs vi w10 => ∃ (As : Option Addr) (cs : Nat), gk ≤ 0 ∧ vs = .slice As N cs ∧ vi = .int .i64 ((gk : Int) - 1) ∧ Rd w10 w10.heap.size As N .u64 (wd N (nxs 16 gk v)) ∧ Has w10 (gs + 1) 23 (vals .u64 [32]) ∧ Below w2.heap.size w2 w10)
  case atStart => exact ⟨some ⟨gs, 0, none⟩, N, Nat.le_refl _, rfl, by go_num, rs3, qb3, hb3⟩
  case round =>
    clear rs3 qb3 hb3
    obtain ⟨As, cs, hk, rfl, rfl, rs10, qb10, hb10⟩ := hrel
    rcases gk with _ | i
    · have hbw := HB2.out.trans (hb10.mono HSZ.out)
      have ra := HRD.out _ hbw
      clear qb10
      go_wp2_with (go_at_call 36
                   refine (P5.out _ _ _ rs10 ra).mono ?_
                   rintro e w11 ⟨rfl, hq⟩
                   have hb11 := hbw.trans (hq.mono (HSS.out _ hbw)))
      go_ret
      exact ⟨rfl, hb11⟩
    · exact absurd hk (by omega)

set_option maxRecDepth 100000 in
set_option maxHeartbeats 4000000 in
theorem digits_5_some (A : Option Addr) (n c : Nat) (l : List Int) (w : World) (hr : Rd w w.heap.size A n .u64 l) (hwl : Words l) (hn : n ≤ 12) (k : Nat) (hds : digs 16 (64 * n) (num l) = tab (k + 1) (fun k => dg 16 (nxs 16 k (num l)))) (h0 : nxs 16 (k + 1) (num l) = 0) (hne : ∀ j, j < (k + 1) → nxs 16 j (num l) ≠ 0) (hmq : (k + 1) ≤ 64 * n / 5 + 1) : Calls Try.prog 9 #[.slice A n c, .int .i64 5] w fun e w' => e = .returned (.bool true) ∧ Below w.heap.size w w' := by
  have hlen : (tab (k + 1) (fun k => dg 16 (nxs 16 k (num l)))).length = (k + 1) := tab_len _ _
  have hll := hr.len
  have hv0 := num_bounds hwl
  rw [hll] at hv0
  obtain ⟨v, hv⟩ : ∃ v, num l = v := ⟨_, rfl⟩
  have HV : Keep (num l = v) := ⟨hv⟩
  have HW : Keep (Words l) := ⟨hwl⟩
  obtain ⟨N, hN⟩ : ∃ N, n + 2 = N := ⟨_, rfl⟩
  have hNi : (n : Int) + 2 = (N : Int) := by omega
  have hNb : 2 ≤ N ∧ N ≤ 14 := by omega
  have hroom := wp_room n
  have hmono : wp (n + 1) ≤ wp N := by rw [← hN]; exact wp_le (by omega)
  rw [hv] at hds h0 hne hlen hv0
  have P1 : Keep (∀ y : World, Rd y y.heap.size A n .u64 l → Calls Try.prog 30 #[.slice A n c, .int .i64 5] y fun e y' => ∃ A' c', e = .returned (.tuple #[.slice A' (k + 1) c', .int .i64 0]) ∧ Rd y' y'.heap.size A' (k + 1) .i64 (tab (k + 1) (fun k => dg 16 (nxs 16 k v))) ∧ Below y.heap.size y y') := ⟨fun y h => by
    have h1 := frWindows_5 A n c l y.heap.size y h hwl (Nat.le_refl _) (by omega)
    rw [HV.out, hds] at h1
    refine h1.mono ?_
    rintro e y' ⟨A', m', c', he, ho, hb⟩
    have hm' := ho.len
    rw [hlen] at hm'
    subst hm'
    exact ⟨A', c', he, ho.rd, hb⟩⟩
  have BD : Keep (∀ i, 0 ≤ nxs 16 i v ∧ nxs 16 i v < wp n) := ⟨fun i => by have := nxs_bounds (H := 16) (by omega) hv0.1 i; omega⟩
  have ST : Keep (∀ i, nxs 16 i v = dg 16 (nxs 16 i v) + 32 * nxs 16 (i + 1) v) := ⟨fun i => nx_eq (H := 16) (by omega)⟩
  have HR : Keep (wp n + 256 ≤ wp N) := ⟨by omega⟩
  have P5 : Keep (∀ (y : World) (As : Option Addr) (cs : Nat), Rd y y.heap.size As N .u64 (wd N (nxs 16 0 v)) → Rd y y.heap.size A n .u64 l → Calls Try.prog 36 #[.slice As N cs, .slice A n c] y fun e y' => e = .returned (.int .i64 0) ∧ Below y.heap.size y y') := ⟨fun y As cs h h' => by
    have h1 := cmp_c As N cs (wd N (nxs 16 0 v)) A n c l y.heap.size y h (wd_words _ _) h' hwl (Nat.le_refl _) (by omega) (by omega)
    have hb := BD.out 0
    have hz : cmpL (wd N (nxs 16 0 v)) l = 0 := by
      unfold cmpL
      rw [num_wd_of hb.1 (by have := HR.out; omega), HV.out]
      exact (if_neg (show ¬ v < v by omega)).trans (if_pos rfl)
    rw [hz] at h1
    exact h1⟩
  have P2 : Keep (∀ (i : Nat) (y : World) (As : Option Addr) (cs gb : Nat), Rd y y.heap.size As N .u64 (wd N (nxs 16 (i + 1) v)) → Has y gb 23 (vals .u64 [32]) → Calls Try.prog 33 #[.slice As N cs, .slice (some ⟨gb, 0, none⟩) 1 1] y fun e y' => ∃ g' c', e = .returned (.slice (some ⟨g', 0, none⟩) (N + 1) c') ∧ N + 1 ≤ c' ∧ Rd y' y'.heap.size (some ⟨g', 0, none⟩) N .u64 (wd N (nxs 16 (i + 1) v * 32)) ∧ Below y.heap.size y y') := ⟨fun i y As cs gb h h' => by
    have h1 := mulOwn_c As N cs _ (some ⟨gb, 0, none⟩) 1 1 [32] y.heap.size y h (wd_words _ _) (Rd.of_has h' h'.lt (by rfl) (by decide)) (words_of _ (by decide)) (Nat.le_refl _) (by omega) (by omega)
    have hb := BD.out (i + 1)
    rw [num_wd_of hb.1 (by have := HR.out; omega), show num [32] = 32 by decide] at h1
    refine h1.mono ?_
    rintro e y' ⟨A', c', he, ho, hb'⟩
    have hcap := ho.le_cap
    have hrd := ho.rd.take_ (m := N) (by omega)
    rw [wd_take] at hrd
    obtain ⟨g', rfl, -⟩ := ho.at_ (by omega)
    exact ⟨g', c', he, hcap, hrd, hb'⟩⟩
  have P3 : Keep (∀ (i : Nat) (zn : Int) (y : World) (As : Option Addr) (cs g : Nat), -dg 16 (nxs 16 i v) = zn → 0 ≤ zn → zn ≤ 16 → Rd y y.heap.size As N .u64 (wd N (nxs 16 (i + 1) v * 32)) → Has y g 23 (vals .u64 [zn]) → Calls Try.prog 34 #[.slice As N cs, .slice (some ⟨g, 0, none⟩) 1 1] y fun e y' => ∃ A' c' co, e = .returned (.tuple #[.slice A' N c', .int .u64 co]) ∧ Rd y' y'.heap.size A' N .u64 (wd N (nxs 16 i v)) ∧ Below y.heap.size y y') := ⟨fun i zn y As cs g hz hz0 hz1 h h' => by
    have h1 := sub_c As N cs _ (some ⟨g, 0, none⟩) 1 1 [zn] y.heap.size y h (wd_words _ _) (Rd.of_has h' h'.lt (by rfl) (by show 0 + 1 ≤ 1; omega)) (words_one hz0 (by omega)) (Nat.le_refl _) (by omega) (by omega)
    have hb := BD.out i
    have hb1 := BD.out (i + 1)
    have hs := ST.out i
    have hd := dg_bounds (H := 16) (v := nxs 16 i v) (by omega)
    have hr_ := HR.out
    have hn1 : num [zn] = zn := by rw [num_cons, num_nil]; omega
    have he : subL (wd N (nxs 16 (i + 1) v * 32)) [zn] = wd N (nxs 16 i v) := by
      rw [subL, wd_len, num_wd_of (by omega) (by omega), hn1, show max N [zn].length = N by simp; omega]
      congr 1
      omega
    rw [he, Nat.max_eq_left (by omega)] at h1
    refine h1.mono ?_
    rintro e y' ⟨A', c', he, ho, hb'⟩
    exact ⟨A', c', _, he, ho.rd, hb'⟩⟩
  have P4 : Keep (∀ (i : Nat) (zn : Int) (y : World) (As : Option Addr) (cs g : Nat), dg 16 (nxs 16 i v) = zn → 0 ≤ zn → zn ≤ 16 → Rd y y.heap.size As N .u64 (wd N (nxs 16 (i + 1) v * 32)) → Has y g 23 (vals .u64 [zn]) → Calls Try.prog 35 #[.slice As N cs, .slice (some ⟨g, 0, none⟩) 1 1] y fun e y' => ∃ A' c' co, e = .returned (.tuple #[.slice A' N c', .int .u64 co]) ∧ Rd y' y'.heap.size A' N .u64 (wd N (nxs 16 i v)) ∧ Below y.heap.size y y') := ⟨fun i zn y As cs g hz hz0 hz1 h h' => by
    have h1 := add_c As N cs _ (some ⟨g, 0, none⟩) 1 1 [zn] y.heap.size y h (wd_words _ _) (Rd.of_has h' h'.lt (by rfl) (by show 0 + 1 ≤ 1; omega)) (words_one hz0 (by omega)) (Nat.le_refl _) (by omega) (by omega)
    have hb := BD.out i
    have hb1 := BD.out (i + 1)
    have hs := ST.out i
    have hr_ := HR.out
    have hn1 : num [zn] = zn := by rw [num_cons, num_nil]; omega
    have he : addL (wd N (nxs 16 (i + 1) v * 32)) [zn] = wd N (nxs 16 i v) := by
      rw [addL, wd_len, num_wd_of (by omega) (by omega), hn1, show max N [zn].length = N by simp; omega]
      congr 1
      omega
    rw [he, Nat.max_eq_left (by omega)] at h1
    refine h1.mono ?_
    rintro e y' ⟨A', c', he, ho, hb'⟩
    exact ⟨A', c', _, he, ho.rd, hb'⟩⟩
  obtain ⟨z, hz⟩ : ∃ z, dg 16 (nxs 16 k v) = z := ⟨_, rfl⟩
  have hz0 : z ≠ 0 := by
    have h1 := ST.out k
    rw [h0, hz] at h1
    have h2 := hne k (by omega)
    omega
  have hz0' : (z == 0) = false := by rw [beq_eq_false_iff_ne]; exact hz0
  obtain ⟨K, hK⟩ : ∃ K, k + 1 = K := ⟨_, rfl⟩
  have hKi : (K : Int) - 1 = (k : Int) := by omega
  have hKp : 0 < K := by omega
  have hTN : nth (tab K (fun k => dg 16 (nxs 16 k v))) k = z := by rw [tab_nth _ (by omega)]; exact hz
  have HTN : Keep _ := ⟨hTN⟩
  have HTL : Keep ((tab K (fun k => dg 16 (nxs 16 k v))).length = K) := ⟨tab_len _ _⟩
  rw [hK] at P1 h0 hmq
  clear hTN hz hz0
  have hqm : K ≤ 64 * n / 5 + 1 := hmq
  obtain ⟨Q, hQ⟩ : ∃ Q, 64 * n / 5 = Q := ⟨_, rfl⟩
  have hQi : 64 * (n : Int) / 5 = (Q : Int) := by omega
  rw [hQ] at hqm
  have hQb : Q ≤ 400 := by omega
  have H0 : Keep (nxs 16 K v = 0) := ⟨h0⟩
  have hmk : ∀ w, (Instr.makeSlice 39 (.int .i64 N) (.int .i64 N)).run Try.prog w = .ok (.slice (some ⟨w.heap.size, 0, none⟩) N N) (w.alloc (.cells (vals .u64 (List.replicate N 0)) 23)) := fun w => run_make_vals w _ _ .u64 Try.underlying39 u64Elem .i64 .i64 N (by omega) (by omega)
  obtain ⟨S, hS⟩ : ∃ S, w.heap.size = S := ⟨_, rfl⟩
  have hsz0 : w.heap.size = S + 0 := hS
  have hb0 : Below S w w := Below.refl _ _
  have HSS : Keep (∀ x : World, Below S w x → S ≤ x.heap.size) := ⟨fun x hb => by have := hb.size; omega⟩
  rw [hS]
  have HRD : Keep (∀ x : World, Below S w x → Rd x x.heap.size A n .u64 l) := ⟨fun x hb => (hr.keep hb (by omega)).more (by have := HSS.out _ hb; omega)⟩
  clear hr hwl hds h0 hne hmq hlen hll hv0 hv hroom hmono hQ hN
  go_enter Try.func9, Try.ntmps9
  go_wp2_with (first
    | (have hq0 := hb1
       clear hq0
       go_at_call 30
       refine (P1.out _ (HRD.out _ hb1)).mono ?_
       rintro e w2 ⟨A3, c3, rfl, hrd, hq⟩
       have hb2 := hb1.trans (hq.mono (HSS.out _ hb1))
       have xd2 := hrd
       clear hrd
       obtain ⟨b3, o3, rfl, hlt3, hc3⟩ := xd2.at_ (by omega)
       have HDC : Keep (∀ x : World, Below w2.heap.size w2 x → ∀ j, j < K → x.cell? ⟨b3, o3 + j, none⟩ = some (.int .i64 (nth (tab K (fun k => dg 16 (nxs 16 k v))) j))) := ⟨fun x h j hj => (h.cell (p := ⟨b3, o3 + j, none⟩) hlt3).trans (hc3 j hj)⟩
       have c0 := hc3 k (by omega)
       rw [HTN.out] at c0
       clear hc3 xd2
       clear hq hb1 )
    | (have hq0 := hb0
       clear hq0
       go_at_call 11
       refine (awake_c _).mono ?_
       rintro e w1 ⟨rfl, hq⟩
       have hb1 := hb0.trans (hq.mono (HSS.out _ hb0))
       clear hq hb0 ))
  obtain ⟨gs, hgs⟩ : ∃ g, w2.heap.size = g := ⟨_, rfl⟩
  rw [hgs]
  have T2 : Keep (S ≤ gs) := ⟨by rw [← hgs]; exact HSS.out _ hb2⟩
  have qs3 : Has ((w2.alloc (.cells (vals .u64 (List.replicate N 0)) 23)).alloc (.cells (vals .u64 [32]) 23)) gs 23 (vals .u64 (List.replicate N 0)) := (Has.new' _ hgs.symm _ _).alloc _
  have qb3 : Has ((w2.alloc (.cells (vals .u64 (List.replicate N 0)) 23)).alloc (.cells (vals .u64 [32]) 23)) (gs + 1) 23 (vals .u64 [32]) := Has.new' _ (by simp only [World.size_alloc, hgs]) _ _
  have hb3 : Below w2.heap.size w2 ((w2.alloc (.cells (vals .u64 (List.replicate N 0)) 23)).alloc (.cells (vals .u64 [32]) 23)) := ((Below.refl _ _).alloc (Nat.le_refl _) _).alloc (by simp) _
  have rs3 : Rd ((w2.alloc (.cells (vals .u64 (List.replicate N 0)) 23)).alloc (.cells (vals .u64 [32]) 23)) ((w2.alloc (.cells (vals .u64 (List.replicate N 0)) 23)).alloc (.cells (vals .u64 [32]) 23)).heap.size (some ⟨gs, 0, none⟩) N .u64 (wd N (nxs 16 K v)) := by
    have e : List.replicate N 0 = wd N (nxs 16 K v) := by
      rw [H0.out]
      have h0 := wd_num (n := N) (words_zeros N) (by simp)
      rw [num_zeros] at h0
      exact h0.symm
    rw [← e]
    exact Rd.of_has qs3 qs3.lt (by rw [List.drop_zero, take_all (by simp)]) (by simp)
  have HB2 : Keep (Below S w w2) := ⟨hb2⟩
  have HSZ : Keep (S ≤ w2.heap.size) := ⟨HSS.out _ hb2⟩
  clear hb2 qs3 hmk
  go_loopg [9, 11] K (fun (gk : Nat) vs vi w10 => ∃ (As : Option Addr) (cs : Nat), gk ≤ K ∧ vs = .slice As N cs ∧ vi = .int .i64 ((gk : Int) - 1) ∧ Rd w10 w10.heap.size As N .u64 (wd N (nxs 16 gk v)) ∧ Has w10 (gs + 1) 23 (vals .u64 [32]) ∧ Below w2.heap.size w2 w10)
  case atStart => exact ⟨some ⟨gs, 0, none⟩, N, Nat.le_refl _, rfl, by first | rfl | (rw [hKi]) | go_num, rs3, qb3, hb3⟩
  case round =>
    clear rs3 qb3 hb3
    obtain ⟨As, cs, hk, rfl, rfl, rs10, qb10, hb10⟩ := hrel
    rcases gk with _ | i
    · have hbw := HB2.out.trans (hb10.mono HSZ.out)
      have ra := HRD.out _ hbw
      clear qb10
      go_wp2_with (go_at_call 36
                   refine (P5.out _ _ _ rs10 ra).mono ?_
                   rintro e w11 ⟨rfl, hq⟩
                   have hb11 := hbw.trans (hq.mono (HSS.out _ hbw)))
      go_ret
      exact ⟨rfl, hb11⟩
    · have e1 : ((i + 1 : Nat) : Int) - 1 = (i : Int) := by omega
      rw [e1]
      clear e1
      obtain ⟨y, hy⟩ : ∃ y, dg 16 (nxs 16 i v) = y := ⟨_, rfl⟩
      have hyb : -16 < y ∧ y ≤ 16 := by rw [← hy]; exact dg_bounds (by omega)
      have HY : Keep _ := ⟨hy⟩
      have HYC : Keep (∀ x : World, Below w2.heap.size w2 x → x.cell? ⟨b3, o3 + i, none⟩ = some (.int .i64 y)) := ⟨fun x h => by rw [HDC.out x h i (by omega), tab_nth _ (by omega)]; show some (Value.int IntKind.i64 (dg 16 (nxs 16 i v))) = _; rw [HY.out]⟩
      have c1 := HYC.out _ hb10
      have hKb : i < K := by omega
      clear hy
      by_cases hneg : y < 0
      · obtain ⟨zn, hzn⟩ : ∃ z, -y = z := ⟨_, rfl⟩
        have hznb : 0 < zn ∧ zn ≤ 16 := by omega
        have HZ : Keep (-dg 16 (nxs 16 i v) = zn) := ⟨by rw [HY.out]; exact hzn⟩
        go_wp2_with (first
          | (go_at_call 34
             have hal := (Below.refl w11.heap.size w11).alloc (Nat.le_refl _) (.cells (vals .u64 [zn]) 23)
             refine (P3.out i zn _ _ _ w11.heap.size HZ.out (by omega) (by omega) (rd_here rp11 hal) (Has.new _ _ _)).mono ?_
             rintro e w12 ⟨A5, c5, co, rfl, rs12, hq⟩
             have hbe := hal.trans (hq.mono hal.size)
             have qb12 := qb11.keep hbe
             have hb12 := hb11.trans (hbe.mono hb11.size)
             clear hal hq hbe rp11 qb11 hb11)
          | (go_at_call 33
             refine (P2.out i _ _ _ _ rs10 qb10).mono ?_
             rintro e w11 ⟨g4, c4, rfl, hc4, rp11, hq⟩
             have qb11 := qb10.keep hq
             have hb11 := hb10.trans (hq.mono hb10.size)
             have c2 := HYC.out _ hb11
             clear hq rs10 qb10 hb10 c1))
        go_roundg i
        case measure => omega
        case rel => exact ⟨A5, c5, by omega, rfl, by go_num, rs12, qb12, hb12⟩
      · have HZ : Keep (dg 16 (nxs 16 i v) = y) := ⟨HY.out⟩
        have hznb : 0 ≤ y ∧ y ≤ 16 := by omega
        go_wp2_with (first
          | (go_at_call 35
             have hal := (Below.refl w11.heap.size w11).alloc (Nat.le_refl _) (.cells (vals .u64 [y]) 23)
             refine (P4.out i y _ _ _ w11.heap.size HZ.out (by omega) (by omega) (rd_here rp11 hal) (Has.new _ _ _)).mono ?_
             rintro e w12 ⟨A5, c5, co, rfl, rs12, hq⟩
             have hbe := hal.trans (hq.mono hal.size)
             have qb12 := qb11.keep hbe
             have hb12 := hb11.trans (hbe.mono hb11.size)
             clear hal hq hbe rp11 qb11 hb11)
          | (go_at_call 33
             refine (P2.out i _ _ _ _ rs10 qb10).mono ?_
             rintro e w11 ⟨g4, c4, rfl, hc4, rp11, hq⟩
             have qb11 := qb10.keep hq
             have hb11 := hb10.trans (hq.mono hb10.size)
             have c2 := HYC.out _ hb11
             clear hq rs10 qb10 hb10 c1))
        go_roundg i
        case measure => omega
        case rel => exact ⟨A5, c5, by omega, rfl, by go_num, rs12, qb12, hb12⟩

set_option maxRecDepth 100000 in
set_option maxHeartbeats 4000000 in
theorem digits_5 (A : Option Addr) (n c : Nat) (l : List Int) (w : World) (hr : Rd w w.heap.size A n .u64 l) (hwl : Words l) (hn : n ≤ 12) : Calls Try.prog 9 #[.slice A n c, .int .i64 5] w fun e w' => e = .returned (.bool true) ∧ Below w.heap.size w w' := by
  obtain ⟨m, h1, h2, h3, h4, -⟩ := digs_shape (H := 16) (W := 5) rfl (by omega) (by omega) hwl hr.len
  rcases m with _ | k
  · exact digits_5_zero A n c l w hr hwl hn h1 h2 h3 h4
  · exact digits_5_some A n c l w hr hwl hn k h1 h2 h3 h4

set_option maxRecDepth 100000 in
set_option maxHeartbeats 4000000 in
theorem digits_6_zero (A : Option Addr) (n c : Nat) (l : List Int) (w : World) (hr : Rd w w.heap.size A n .u64 l) (hwl : Words l) (hn : n ≤ 12) (hds : digs 32 (64 * n) (num l) = tab 0 (fun k => dg 32 (nxs 32 k (num l)))) (h0 : nxs 32 0 (num l) = 0) (hne : ∀ j, j < 0 → nxs 32 j (num l) ≠ 0) (hmq : 0 ≤ 64 * n / 6 + 1) : Calls Try.prog 9 #[.slice A n c, .int .i64 6] w fun e w' => e = .returned (.bool true) ∧ Below w.heap.size w w' := by
  have hlen : (tab 0 (fun k => dg 32 (nxs 32 k (num l)))).length = 0 := tab_len _ _
  have hll := hr.len
  have hv0 := num_bounds hwl
  rw [hll] at hv0
  obtain ⟨v, hv⟩ : ∃ v, num l = v := ⟨_, rfl⟩
  have HV : Keep (num l = v) := ⟨hv⟩
  have HW : Keep (Words l) := ⟨hwl⟩
  obtain ⟨N, hN⟩ : ∃ N, n + 2 = N := ⟨_, rfl⟩
  have hNi : (n : Int) + 2 = (N : Int) := by omega
  have hNb : 2 ≤ N ∧ N ≤ 14 := by omega
  have hroom := wp_room n
  have hmono : wp (n + 1) ≤ wp N := by rw [← hN]; exact wp_le (by omega)
  rw [hv] at hds h0 hne hlen hv0
  have P1 : Keep (∀ y : World, Rd y y.heap.size A n .u64 l → Calls Try.prog 30 #[.slice A n c, .int .i64 6] y fun e y' => ∃ A' c', e = .returned (.tuple #[.slice A' 0 c', .int .i64 0]) ∧ Rd y' y'.heap.size A' 0 .i64 (tab 0 (fun k => dg 32 (nxs 32 k v))) ∧ Below y.heap.size y y') := ⟨fun y h => by
    have h1 := frWindows_6 A n c l y.heap.size y h hwl (Nat.le_refl _) (by omega)
    rw [HV.out, hds] at h1
    refine h1.mono ?_
    rintro e y' ⟨A', m', c', he, ho, hb⟩
    have hm' := ho.len
    rw [hlen] at hm'
    subst hm'
    exact ⟨A', c', he, ho.rd, hb⟩⟩
  have BD : Keep (∀ i, 0 ≤ nxs 32 i v ∧ nxs 32 i v < wp n) := ⟨fun i => by have := nxs_bounds (H := 32) (by omega) hv0.1 i; omega⟩
  have ST : Keep (∀ i, nxs 32 i v = dg 32 (nxs 32 i v) + 64 * nxs 32 (i + 1) v) := ⟨fun i => nx_eq (H := 32) (by omega)⟩
  have HR : Keep (wp n + 256 ≤ wp N) := ⟨by omega⟩
  have P5 : Keep (∀ (y : World) (As : Option Addr) (cs : Nat), Rd y y.heap.size As N .u64 (wd N (nxs 32 0 v)) → Rd y y.heap.size A n .u64 l → Calls Try.prog 36 #[.slice As N cs, .slice A n c] y fun e y' => e = .returned (.int .i64 0) ∧ Below y.heap.size y y') := ⟨fun y As cs h h' => by
    have h1 := cmp_c As N cs (wd N (nxs 32 0 v)) A n c l y.heap.size y h (wd_words _ _) h' hwl (Nat.le_refl _) (by omega) (by omega)
    have hb := BD.out 0
    have hz : cmpL (wd N (nxs 32 0 v)) l = 0 := by
      unfold cmpL
      rw [num_wd_of hb.1 (by have := HR.out; omega), HV.out]
      exact (if_neg (show ¬ v < v by omega)).trans (if_pos rfl)
    rw [hz] at h1
    exact h1⟩
  have hqm : 0 ≤ 64 * n / 6 + 1 := hmq
  obtain ⟨Q, hQ⟩ : ∃ Q, 64 * n / 6 = Q := ⟨_, rfl⟩
  have hQi : 64 * (n : Int) / 6 = (Q : Int) := by omega
  rw [hQ] at hqm
  have hQb : Q ≤ 400 := by omega
  have H0 : Keep (nxs 32 0 v = 0) := ⟨h0⟩
  have hmk : ∀ w, (Instr.makeSlice 39 (.int .i64 N) (.int .i64 N)).run Try.prog w = .ok (.slice (some ⟨w.heap.size, 0, none⟩) N N) (w.alloc (.cells (vals .u64 (List.replicate N 0)) 23)) := fun w => run_make_vals w _ _ .u64 Try.underlying39 u64Elem .i64 .i64 N (by omega) (by omega)
  obtain ⟨S, hS⟩ : ∃ S, w.heap.size = S := ⟨_, rfl⟩
  have hsz0 : w.heap.size = S + 0 := hS
  have hb0 : Below S w w := Below.refl _ _
  have HSS : Keep (∀ x : World, Below S w x → S ≤ x.heap.size) := ⟨fun x hb => by have := hb.size; omega⟩
  rw [hS]
  have HRD : Keep (∀ x : World, Below S w x → Rd x x.heap.size A n .u64 l) := ⟨fun x hb => (hr.keep hb (by omega)).more (by have := HSS.out _ hb; omega)⟩
  clear hr hwl hds h0 hne hmq hlen hll hv0 hv hroom hmono hQ hN
  go_enter Try.func9, Try.ntmps9
  go_wp2_with (first
    | (have hq0 := hb1
       clear hq0
       go_at_call 30
       refine (P1.out _ (HRD.out _ hb1)).mono ?_
       rintro e w2 ⟨A3, c3, rfl, hrd, hq⟩
       have hb2 := hb1.trans (hq.mono (HSS.out _ hb1))
       have xd2 := hrd
       clear hrd
       clear hq hb1 )
    | (have hq0 := hb0
       clear hq0
       go_at_call 11
       refine (awake_c _).mono ?_
       rintro e w1 ⟨rfl, hq⟩
       have hb1 := hb0.trans (hq.mono (HSS.out _ hb0))
       clear hq hb0 ))
  obtain ⟨gs, hgs⟩ : ∃ g, w2.heap.size = g := ⟨_, rfl⟩
  rw [hgs]
  have T2 : Keep (S ≤ gs) := ⟨by rw [← hgs]; exact HSS.out _ hb2⟩
  have qs3 : Has ((w2.alloc (.cells (vals .u64 (List.replicate N 0)) 23)).alloc (.cells (vals .u64 [64]) 23)) gs 23 (vals .u64 (List.replicate N 0)) := (Has.new' _ hgs.symm _ _).alloc _
  have qb3 : Has ((w2.alloc (.cells (vals .u64 (List.replicate N 0)) 23)).alloc (.cells (vals .u64 [64]) 23)) (gs + 1) 23 (vals .u64 [64]) := Has.new' _ (by simp only [World.size_alloc, hgs]) _ _
  have hb3 : Below w2.heap.size w2 ((w2.alloc (.cells (vals .u64 (List.replicate N 0)) 23)).alloc (.cells (vals .u64 [64]) 23)) := ((Below.refl _ _).alloc (Nat.le_refl _) _).alloc (by simp) _
  have rs3 : Rd ((w2.alloc (.cells (vals .u64 (List.replicate N 0)) 23)).alloc (.cells (vals .u64 [64]) 23)) ((w2.alloc (.cells (vals .u64 (List.replicate N 0)) 23)).alloc (.cells (vals .u64 [64]) 23)).heap.size (some ⟨gs, 0, none⟩) N .u64 (wd N (nxs 32 0 v)) := by
    have e : List.replicate N 0 = wd N (nxs 32 0 v) := by
      rw [H0.out]
      have h0 := wd_num (n := N) (words_zeros N) (by simp)
      rw [num_zeros] at h0
      exact h0.symm
    rw [← e]
    exact Rd.of_has qs3 qs3.lt (by rw [List.drop_zero, take_all (by simp)]) (by simp)
  have HB2 : Keep (Below S w w2) := ⟨hb2⟩
  have HSZ : Keep (S ≤ w2.heap.size) := ⟨HSS.out _ hb2⟩
  clear hb2 qs3 hmk
  go_loopg [9, 11] 0 (fun (gk : Nat) vs vi w10 => ∃ (As : Option Addr) (cs : Nat), gk ≤ 0 ∧ vs = .slice As N cs ∧ vi = .int .i64 ((gk : Int) - 1) ∧ Rd w10 w10.heap.size As N .u64 (wd N (nxs 32 gk v)) ∧ Has w10 (gs + 1) 23 (vals .u64 [64]) ∧ Below w2.heap.size w2 w10)
  case atStart => exact ⟨some ⟨gs, 0, none⟩, N, Nat.le_refl _, rfl, by go_num, rs3, qb3, hb3⟩
  case round =>
    clear rs3 qb3 hb3
    obtain ⟨As, cs, hk, rfl, rfl, rs10, qb10, hb10⟩ := hrel
    rcases gk with _ | i
    · have hbw := HB2.out.trans (hb10.mono HSZ.out)
      have ra := HRD.out _ hbw
      clear qb10
      go_wp2_with (go_at_call 36
                   refine (P5.out _ _ _ rs10 ra).mono ?_
                   rintro e w11 ⟨rfl, hq⟩
                   have hb11 := hbw.trans (hq.mono (HSS.out _ hbw)))
      go_ret
      exact ⟨rfl, hb11⟩
    · exact absurd hk (by omega)

set_option maxRecDepth 100000 in
set_option maxHeartbeats 4000000 in
theorem digits_6_some (A : Option Addr) (n c : Nat) (l : List Int) (w : World) (hr : Rd w w.heap.size A n .u64 l) (hwl : Words l) (hn : n ≤ 12) (k : Nat) (hds : digs 32 (64 * n) (num l) = tab (k + 1) (fun k => dg 32 (nxs 32 k (num l)))) (h0 : nxs 32 (k + 1) (num l) = 0) (hne : ∀ j, j < (k + 1) → nxs 32 j (num l) ≠ 0) (hmq : (k + 1) ≤ 64 * n / 6 + 1) : Calls Try.prog 9 #[.slice A n c, .int .i64 6] w fun e w' => e = .returned (.bool true) ∧ Below w.heap.size w w' := by
  have hlen : (tab (k + 1) (fun k => dg 32 (nxs 32 k (num l)))).length = (k + 1) := tab_len _ _
  have hll := hr.len
  have hv0 := num_bounds hwl
  rw [hll] at hv0
  obtain ⟨v, hv⟩ : ∃ v, num l = v := ⟨_, rfl⟩
  have HV : Keep (num l = v) := ⟨hv⟩
  have HW : Keep (Words l) := ⟨hwl⟩
  obtain ⟨N, hN⟩ : ∃ N, n + 2 = N := ⟨_, rfl⟩
  have hNi : (n : Int) + 2 = (N : Int) := by omega
  have hNb : 2 ≤ N ∧ N ≤ 14 := by omega
  have hroom := wp_room n
  have hmono : wp (n + 1) ≤ wp N := by rw [← hN]; exact wp_le (by omega)
  rw [hv] at hds h0 hne hlen hv0
  have P1 : Keep (∀ y : World, Rd y y.heap.size A n .u64 l → Calls Try.prog 30 #[.slice A n c, .int .i64 6] y fun e y' => ∃ A' c', e = .returned (.tuple #[.slice A' (k + 1) c', .int .i64 0]) ∧ Rd y' y'.heap.size A' (k + 1) .i64 (tab (k + 1) (fun k => dg 32 (nxs 32 k v))) ∧ Below y.heap.size y y') := ⟨fun y h => by
    have h1 := frWindows_6 A n c l y.heap.size y h hwl (Nat.le_refl _) (by omega)
    rw [HV.out, hds] at h1
    refine h1.mono ?_
    rintro e y' ⟨A', m', c', he, ho, hb⟩
    have hm' := ho.len
    rw [hlen] at hm'
    subst hm'
    exact ⟨A', c', he, ho.rd, hb⟩⟩
  have BD : Keep (∀ i, 0 ≤ nxs 32 i v ∧ nxs 32 i v < wp n) := ⟨fun i => by have := nxs_bounds (H := 32) (by omega) hv0.1 i; omega⟩
  have ST : Keep (∀ i, nxs 32 i v = dg 32 (nxs 32 i v) + 64 * nxs 32 (i + 1) v) := ⟨fun i => nx_eq (H := 32) (by omega)⟩
  have HR : Keep (wp n + 256 ≤ wp N) := ⟨by omega⟩
  have P5 : Keep (∀ (y : World) (As : Option Addr) (cs : Nat), Rd y y.heap.size As N .u64 (wd N (nxs 32 0 v)) → Rd y y.heap.size A n .u64 l → Calls Try.prog 36 #[.slice As N cs, .slice A n c] y fun e y' => e = .returned (.int .i64 0) ∧ Below y.heap.size y y') := ⟨fun y As cs h h' => by
    have h1 := cmp_c As N cs (wd N (nxs 32 0 v)) A n c l y.heap.size y h (wd_words _ _) h' hwl (Nat.le_refl _) (by omega) (by omega)
    have hb := BD.out 0
    have hz : cmpL (wd N (nxs 32 0 v)) l = 0 := by
      unfold cmpL
      rw [num_wd_of hb.1 (by have := HR.out; omega), HV.out]
      exact (if_neg (show ¬ v < v by omega)).trans (if_pos rfl)
    rw [hz] at h1
    exact h1⟩
  have P2 : Keep (∀ (i : Nat) (y : World) (As : Option Addr) (cs gb : Nat), Rd y y.heap.size As N .u64 (wd N (nxs 32 (i + 1) v)) → Has y gb 23 (vals .u64 [64]) → Calls Try.prog 33 #[.slice As N cs, .slice (some ⟨gb, 0, none⟩) 1 1] y fun e y' => ∃ g' c', e = .returned (.slice (some ⟨g', 0, none⟩) (N + 1) c') ∧ N + 1 ≤ c' ∧ Rd y' y'.heap.size (some ⟨g', 0, none⟩) N .u64 (wd N (nxs 32 (i + 1) v * 64)) ∧ Below y.heap.size y y') := ⟨fun i y As cs gb h h' => by
    have h1 := mulOwn_c As N cs _ (some ⟨gb, 0, none⟩) 1 1 [64] y.heap.size y h (wd_words _ _) (Rd.of_has h' h'.lt (by rfl) (by decide)) (words_of _ (by decide)) (Nat.le_refl _) (by omega) (by omega)
    have hb := BD.out (i + 1)
    rw [num_wd_of hb.1 (by have := HR.out; omega), show num [64] = 64 by decide] at h1
    refine h1.mono ?_
    rintro e y' ⟨A', c', he, ho, hb'⟩
    have hcap := ho.le_cap
    have hrd := ho.rd.take_ (m := N) (by omega)
    rw [wd_take] at hrd
    obtain ⟨g', rfl, -⟩ := ho.at_ (by omega)
    exact ⟨g', c', he, hcap, hrd, hb'⟩⟩
  have P3 : Keep (∀ (i : Nat) (zn : Int) (y : World) (As : Option Addr) (cs g : Nat), -dg 32 (nxs 32 i v) = zn → 0 ≤ zn → zn ≤ 32 → Rd y y.heap.size As N .u64 (wd N (nxs 32 (i + 1) v * 64)) → Has y g 23 (vals .u64 [zn]) → Calls Try.prog 34 #[.slice As N cs, .slice (some ⟨g, 0, none⟩) 1 1] y fun e y' => ∃ A' c' co, e = .returned (.tuple #[.slice A' N c', .int .u64 co]) ∧ Rd y' y'.heap.size A' N .u64 (wd N (nxs 32 i v)) ∧ Below y.heap.size y y') := ⟨fun i zn y As cs g hz hz0 hz1 h h' => by
    have h1 := sub_c As N cs _ (some ⟨g, 0, none⟩) 1 1 [zn] y.heap.size y h (wd_words _ _) (Rd.of_has h' h'.lt (by rfl) (by show 0 + 1 ≤ 1; omega)) (words_one hz0 (by omega)) (Nat.le_refl _) (by omega) (by omega)
    have hb := BD.out i
    have hb1 := BD.out (i + 1)
    have hs := ST.out i
    have hd := dg_bounds (H := 32) (v := nxs 32 i v) (by omega)
    have hr_ := HR.out
    have hn1 : num [zn] = zn := by rw [num_cons, num_nil]; omega
    have he : subL (wd N (nxs 32 (i + 1) v * 64)) [zn] = wd N (nxs 32 i v) := by
      rw [subL, wd_len, num_wd_of (by omega) (by omega), hn1, show max N [zn].length = N by simp; omega]
      congr 1
      omega
    rw [he, Nat.max_eq_left (by omega)] at h1
    refine h1.mono ?_
    rintro e y' ⟨A', c', he, ho, hb'⟩
    exact ⟨A', c', _, he, ho.rd, hb'⟩⟩
  have P4 : Keep (∀ (i : Nat) (zn : Int) (y : World) (As : Option Addr) (cs g : Nat), dg 32 (nxs 32 i v) = zn → 0 ≤ zn → zn ≤ 32 → Rd y y.heap.size As N .u64 (wd N (nxs 32 (i + 1) v * 64)) → Has y g 23 (vals .u64 [zn]) → Calls Try.prog 35 #[.slice As N cs, .slice (some ⟨g, 0, none⟩) 1 1] y fun e y' => ∃ A' c' co, e = .returned (.tuple #[.slice A' N c', .int .u64 co]) ∧ Rd y' y'.heap.size A' N .u64 (wd N (nxs 32 i v)) ∧ Below y.heap.size y y') := ⟨fun i zn y As cs g hz hz0 hz1 h h' => by
    have h1 := add_c As N cs _ (some ⟨g, 0, none⟩) 1 1 [zn] y.heap.size y h (wd_words _ _) (Rd.of_has h' h'.lt (by rfl) (by show 0 + 1 ≤ 1; omega)) (words_one hz0 (by omega)) (Nat.le_refl _) (by omega) (by omega)
    have hb := BD.out i
    have hb1 := BD.out (i + 1)
    have hs := ST.out i
    have hr_ := HR.out
    have hn1 : num [zn] = zn := by rw [num_cons, num_nil]; omega
    have he : addL (wd N (nxs 32 (i + 1) v * 64)) [zn] = wd N (nxs 32 i v) := by
      rw [addL, wd_len, num_wd_of (by omega) (by omega), hn1, show max N [zn].length = N by simp; omega]
      congr 1
      omega
    rw [he, Nat.max_eq_left (by omega)] at h1
    refine h1.mono ?_
    rintro e y' ⟨A', c', he, ho, hb'⟩
    exact ⟨A', c', _, he, ho.rd, hb'⟩⟩
  obtain ⟨z, hz⟩ : ∃ z, dg 32 (nxs 32 k v) = z := ⟨_, rfl⟩
  have hz0 : z ≠ 0 := by
    have h1 := ST.out k
    rw [h0, hz] at h1
    have h2 := hne k (by omega)
    omega
  have hz0' : (z == 0) = false := by rw [beq_eq_false_iff_ne]; exact hz0
  obtain ⟨K, hK⟩ : ∃ K, k + 1 = K := ⟨_, rfl⟩
  have hKi : (K : Int) - 1 = (k : Int) := by omega
  have hKp : 0 < K := by omega
  have hTN : nth (tab K (fun k => dg 32 (nxs 32 k v))) k = z := by rw [tab_nth _ (by omega)]; exact hz
  have HTN : Keep _ := ⟨hTN⟩
  have HTL : Keep ((tab K (fun k => dg 32 (nxs 32 k v))).length = K) := ⟨tab_len _ _⟩
  rw [hK] at P1 h0 hmq
  clear hTN hz hz0
  have hqm : K ≤ 64 * n / 6 + 1 := hmq
  obtain ⟨Q, hQ⟩ : ∃ Q, 64 * n / 6 = Q := ⟨_, rfl⟩
  have hQi : 64 * (n : Int) / 6 = (Q : Int) := by omega
  rw [hQ] at hqm
  have hQb : Q ≤ 400 := by omega
  have H0 : Keep (nxs 32 K v = 0) := ⟨h0⟩
  have hmk : ∀ w, (Instr.makeSlice 39 (.int .i64 N) (.int .i64 N)).run Try.prog w = .ok (.slice (some ⟨w.heap.size, 0, none⟩) N N) (w.alloc (.cells (vals .u64 (List.replicate N 0)) 23)) := fun w => run_make_vals w _ _ .u64 Try.underlying39 u64Elem .i64 .i64 N (by omega) (by omega)
  obtain ⟨S, hS⟩ : ∃ S, w.heap.size = S := ⟨_, rfl⟩
  have hsz0 : w.heap.size = S + 0 := hS
  have hb0 : Below S w w := Below.refl _ _
  have HSS : Keep (∀ x : World, Below S w x → S ≤ x.heap.size) := ⟨fun x hb => by have := hb.size; omega⟩
  rw [hS]
  have HRD : Keep (∀ x : World, Below S w x → Rd x x.heap.size A n .u64 l) := ⟨fun x hb => (hr.keep hb (by omega)).more (by have := HSS.out _ hb; omega)⟩
  clear hr hwl hds h0 hne hmq hlen hll hv0 hv hroom hmono hQ hN
  go_enter Try.func9, Try.ntmps9
  go_wp2_with (first
    | (have hq0 := hb1
       clear hq0
       go_at_call 30
       refine (P1.out _ (HRD.out _ hb1)).mono ?_
       rintro e w2 ⟨A3, c3, rfl, hrd, hq⟩
       have hb2 := hb1.trans (hq.mono (HSS.out _ hb1))
       have xd2 := hrd
       clear hrd
       obtain ⟨b3, o3, rfl, hlt3, hc3⟩ := xd2.at_ (by omega)
       have HDC : Keep (∀ x : World, Below w2.heap.size w2 x → ∀ j, j < K → x.cell? ⟨b3, o3 + j, none⟩ = some (.int .i64 (nth (tab K (fun k => dg 32 (nxs 32 k v))) j))) := ⟨fun x h j hj => (h.cell (p := ⟨b3, o3 + j, none⟩) hlt3).trans (hc3 j hj)⟩
       have c0 := hc3 k (by omega)
       rw [HTN.out] at c0
       clear hc3 xd2
       clear hq hb1 )
    | (have hq0 := hb0
       clear hq0
       go_at_call 11
       refine (awake_c _).mono ?_
       rintro e w1 ⟨rfl, hq⟩
       have hb1 := hb0.trans (hq.mono (HSS.out _ hb0))
       clear hq hb0 ))
  obtain ⟨gs, hgs⟩ : ∃ g, w2.heap.size = g := ⟨_, rfl⟩
  rw [hgs]
  have T2 : Keep (S ≤ gs) := ⟨by rw [← hgs]; exact HSS.out _ hb2⟩
  have qs3 : Has ((w2.alloc (.cells (vals .u64 (List.replicate N 0)) 23)).alloc (.cells (vals .u64 [64]) 23)) gs 23 (vals .u64 (List.replicate N 0)) := (Has.new' _ hgs.symm _ _).alloc _
  have qb3 : Has ((w2.alloc (.cells (vals .u64 (List.replicate N 0)) 23)).alloc (.cells (vals .u64 [64]) 23)) (gs + 1) 23 (vals .u64 [64]) := Has.new' _ (by simp only [World.size_alloc, hgs]) _ _
  have hb3 : Below w2.heap.size w2 ((w2.alloc (.cells (vals .u64 (List.replicate N 0)) 23)).alloc (.cells (vals .u64 [64]) 23)) := ((Below.refl _ _).alloc (Nat.le_refl _) _).alloc (by simp) _
  have rs3 : Rd ((w2.alloc (.cells (vals .u64 (List.replicate N 0)) 23)).alloc (.cells (vals .u64 [64]) 23)) ((w2.alloc (.cells (vals .u64 (List.replicate N 0)) 23)).alloc (.cells (vals .u64 [64]) 23)).heap.size (some ⟨gs, 0, none⟩) N .u64 (wd N (nxs 32 K v)) := by
    have e : List.replicate N 0 = wd N (nxs 32 K v) := by
      rw [H0.out]
      have h0 := wd_num (n := N) (words_zeros N) (by simp)
      rw [num_zeros] at h0
      exact h0.symm
    rw [← e]
    exact Rd.of_has qs3 qs3.lt (by rw [List.drop_zero, take_all (by simp)]) (by simp)
  have HB2 : Keep (Below S w w2) := ⟨hb2⟩
  have HSZ : Keep (S ≤ w2.heap.size) := ⟨HSS.out _ hb2⟩
  clear hb2 qs3 hmk
  go_loopg [9, 11] K (fun (gk : Nat) vs vi w10 => ∃ (As : Option Addr) (cs : Nat), gk ≤ K ∧ vs = .slice As N cs ∧ vi = .int .i64 ((gk : Int) - 1) ∧ Rd w10 w10.heap.size As N .u64 (wd N (nxs 32 gk v)) ∧ Has w10 (gs + 1) 23 (vals .u64 [64]) ∧ Below w2.heap.size w2 w10)
  case atStart => exact ⟨some ⟨gs, 0, none⟩, N, Nat.le_refl _, rfl, by first | rfl | (rw [hKi]) | go_num, rs3, qb3, hb3⟩
  case round =>
    clear rs3 qb3 hb3
    obtain ⟨As, cs, hk, rfl, rfl, rs10, qb10, hb10⟩ := hrel
    rcases gk with _ | i
    · have hbw := HB2.out.trans (hb10.mono HSZ.out)
      have ra := HRD.out _ hbw
      clear qb10
      go_wp2_with (go_at_call 36
                   refine (P5.out _ _ _ rs10 ra).mono ?_
                   rintro e w11 ⟨rfl, hq⟩
                   have hb11 := hbw.trans (hq.mono (HSS.out _ hbw)))
      go_ret
      exact ⟨rfl, hb11⟩
    · have e1 : ((i + 1 : Nat) : Int) - 1 = (i : Int) := by omega
      rw [e1]
      clear e1
      obtain ⟨y, hy⟩ : ∃ y, dg 32 (nxs 32 i v) = y := ⟨_, rfl⟩
      have hyb : -32 < y ∧ y ≤ 32 := by rw [← hy]; exact dg_bounds (by omega)
      have HY : Keep _ := ⟨hy⟩
      have HYC : Keep (∀ x : World, Below w2.heap.size w2 x → x.cell? ⟨b3, o3 + i, none⟩ = some (.int .i64 y)) := ⟨fun x h => by rw [HDC.out x h i (by omega), tab_nth _ (by omega)]; show some (Value.int IntKind.i64 (dg 32 (nxs 32 i v))) = _; rw [HY.out]⟩
      have c1 := HYC.out _ hb10
      have hKb : i < K := by omega
      clear hy
      by_cases hneg : y < 0
      · obtain ⟨zn, hzn⟩ : ∃ z, -y = z := ⟨_, rfl⟩
        have hznb : 0 < zn ∧ zn ≤ 32 := by omega
        have HZ : Keep (-dg 32 (nxs 32 i v) = zn) := ⟨by rw [HY.out]; exact hzn⟩
        go_wp2_with (first
          | (go_at_call 34
             have hal := (Below.refl w11.heap.size w11).alloc (Nat.le_refl _) (.cells (vals .u64 [zn]) 23)
             refine (P3.out i zn _ _ _ w11.heap.size HZ.out (by omega) (by omega) (rd_here rp11 hal) (Has.new _ _ _)).mono ?_
             rintro e w12 ⟨A5, c5, co, rfl, rs12, hq⟩
             have hbe := hal.trans (hq.mono hal.size)
             have qb12 := qb11.keep hbe
             have hb12 := hb11.trans (hbe.mono hb11.size)
             clear hal hq hbe rp11 qb11 hb11)
          | (go_at_call 33
             refine (P2.out i _ _ _ _ rs10 qb10).mono ?_
             rintro e w11 ⟨g4, c4, rfl, hc4, rp11, hq⟩
             have qb11 := qb10.keep hq
             have hb11 := hb10.trans (hq.mono hb10.size)
             have c2 := HYC.out _ hb11
             clear hq rs10 qb10 hb10 c1))
        go_roundg i
        case measure => omega
        case rel => exact ⟨A5, c5, by omega, rfl, by go_num, rs12, qb12, hb12⟩
      · have HZ : Keep (dg 32 (nxs 32 i v) = y) := ⟨HY.out⟩
        have hznb : 0 ≤ y ∧ y ≤ 32 := by omega
        go_wp2_with (first
          | (go_at_call 35
             have hal := (Below.refl w11.heap.size w11).alloc (Nat.le_refl _) (.cells (vals .u64 [y]) 23)
             refine (P4.out i y _ _ _ w11.heap.size HZ.out (by omega) (by omega) (rd_here rp11 hal) (Has.new _ _ _)).mono ?_
             rintro e w12 ⟨A5, c5, co, rfl, rs12, hq⟩
             have hbe := hal.trans (hq.mono hal.size)
             have qb12 := qb11.keep hbe
             have hb12 := hb11.trans (hbe.mono hb11.size)
             clear hal hq hbe rp11 qb11 hb11)
          | (go_at_call 33
             refine (P2.out i _ _ _ _ rs10 qb10).mono ?_
             rintro e w11 ⟨g4, c4, rfl, hc4, rp11, hq⟩
             have qb11 := qb10.keep hq
             have hb11 := hb10.trans (hq.mono hb10.size)
             have c2 := HYC.out _ hb11
             clear hq rs10 qb10 hb10 c1))
        go_roundg i
        case measure => omega
        case rel => exact ⟨A5, c5, by omega, rfl, by go_num, rs12, qb12, hb12⟩

set_option maxRecDepth 100000 in
set_option maxHeartbeats 4000000 in
theorem digits_6 (A : Option Addr) (n c : Nat) (l : List Int) (w : World) (hr : Rd w w.heap.size A n .u64 l) (hwl : Words l) (hn : n ≤ 12) : Calls Try.prog 9 #[.slice A n c, .int .i64 6] w fun e w' => e = .returned (.bool true) ∧ Below w.heap.size w w' := by
  obtain ⟨m, h1, h2, h3, h4, -⟩ := digs_shape (H := 32) (W := 6) rfl (by omega) (by omega) hwl hr.len
  rcases m with _ | k
  · exact digits_6_zero A n c l w hr hwl hn h1 h2 h3 h4
  · exact digits_6_some A n c l w hr hwl hn k h1 h2 h3 h4

set_option maxRecDepth 100000 in
set_option maxHeartbeats 4000000 in
theorem digits_7_zero (A : Option Addr) (n c : Nat) (l : List Int) (w : World) (hr : Rd w w.heap.size A n .u64 l) (hwl : Words l) (hn : n ≤ 12) (hds : digs 64 (64 * n) (num l) = tab 0 (fun k => dg 64 (nxs 64 k (num l)))) (h0 : nxs 64 0 (num l) = 0) (hne : ∀ j, j < 0 → nxs 64 j (num l) ≠ 0) (hmq : 0 ≤ 64 * n / 7 + 1) : Calls Try.prog 9 #[.slice A n c, .int .i64 7] w fun e w' => e = .returned (.bool true) ∧ Below w.heap.size w w' := by
  have hlen : (tab 0 (fun k => dg 64 (nxs 64 k (num l)))).length = 0 := tab_len _ _
  have hll := hr.len
  have hv0 := num_bounds hwl
  rw [hll] at hv0
  obtain ⟨v, hv⟩ : ∃ v, num l = v := ⟨_, rfl⟩
  have HV : Keep (num l = v) := ⟨hv⟩
  have HW : Keep (Words l) := ⟨hwl⟩
  obtain ⟨N, hN⟩ : ∃ N, n + 2 = N := ⟨_, rfl⟩
  have hNi : (n : Int) + 2 = (N : Int) := by omega
  have hNb : 2 ≤ N ∧ N ≤ 14 := by omega
  have hroom := wp_room n
  have hmono : wp (n + 1) ≤ wp N := by rw [← hN]; exact wp_le (by omega)
  rw [hv] at hds h0 hne hlen hv0
  have P1 : Keep (∀ y : World, Rd y y.heap.size A n .u64 l → Calls Try.prog 30 #[.slice A n c, .int .i64 7] y fun e y' => ∃ A' c', e = .returned (.tuple #[.slice A' 0 c', .int .i64 0]) ∧ Rd y' y'.heap.size A' 0 .i64 (tab 0 (fun k => dg 64 (nxs 64 k v))) ∧ Below y.heap.size y y') := ⟨fun y h => by
    have h1 := frWindows_7 A n c l y.heap.size y h hwl (Nat.le_refl _) (by omega)
    rw [HV.out, hds] at h1
    refine h1.mono ?_
    rintro e y' ⟨A', m', c', he, ho, hb⟩
    have hm' := ho.len
    rw [hlen] at hm'
    subst hm'
    exact ⟨A', c', he, ho.rd, hb⟩⟩
  have BD : Keep (∀ i, 0 ≤ nxs 64 i v ∧ nxs 64 i v < wp n) := ⟨fun i => by have := nxs_bounds (H := 64) (by omega) hv0.1 i; omega⟩
  have ST : Keep (∀ i, nxs 64 i v = dg 64 (nxs 64 i v) + 128 * nxs 64 (i + 1) v) := ⟨fun i => nx_eq (H := 64) (by omega)⟩
  have HR : Keep (wp n + 256 ≤ wp N) := ⟨by omega⟩
  have P5 : Keep (∀ (y : World) (As : Option Addr) (cs : Nat), Rd y y.heap.size As N .u64 (wd N (nxs 64 0 v)) → Rd y y.heap.size A n .u64 l → Calls Try.prog 36 #[.slice As N cs, .slice A n c] y fun e y' => e = .returned (.int .i64 0) ∧ Below y.heap.size y y') := ⟨fun y As cs h h' => by
    have h1 := cmp_c As N cs (wd N (nxs 64 0 v)) A n c l y.heap.size y h (wd_words _ _) h' hwl (Nat.le_refl _) (by omega) (by omega)
    have hb := BD.out 0
    have hz : cmpL (wd N (nxs 64 0 v)) l = 0 := by
      unfold cmpL
      rw [num_wd_of hb.1 (by have := HR.out; omega), HV.out]
      exact (if_neg (show ¬ v < v by omega)).trans (if_pos rfl)
    rw [hz] at h1
    exact h1⟩
  have hqm : 0 ≤ 64 * n / 7 + 1 := hmq
  obtain ⟨Q, hQ⟩ : ∃ Q, 64 * n / 7 = Q := ⟨_, rfl⟩
  have hQi : 64 * (n : Int) / 7 = (Q : Int) := by omega
  rw [hQ] at hqm
  have hQb : Q ≤ 400 := by omega
  have H0 : Keep (nxs 64 0 v = 0) := ⟨h0⟩
  have hmk : ∀ w, (Instr.makeSlice 39 (.int .i64 N) (.int .i64 N)).run Try.prog w = .ok (.slice (some ⟨w.heap.size, 0, none⟩) N N) (w.alloc (.cells (vals .u64 (List.replicate N 0)) 23)) := fun w => run_make_vals w _ _ .u64 Try.underlying39 u64Elem .i64 .i64 N (by omega) (by omega)
  obtain ⟨S, hS⟩ : ∃ S, w.heap.size = S := ⟨_, rfl⟩
  have hsz0 : w.heap.size = S + 0 := hS
  have hb0 : Below S w w := Below.refl _ _
  have HSS : Keep (∀ x : World, Below S w x → S ≤ x.heap.size) := ⟨fun x hb => by have := hb.size; omega⟩
  rw [hS]
  have HRD : Keep (∀ x : World, Below S w x → Rd x x.heap.size A n .u64 l) := ⟨fun x hb => (hr.keep hb (by omega)).more (by have := HSS.out _ hb; omega)⟩
  clear hr hwl hds h0 hne hmq hlen hll hv0 hv hroom hmono hQ hN
  go_enter Try.func9, Try.ntmps9
  go_wp2_with (first
    | (have hq0 := hb1
       clear hq0
       go_at_call 30
       refine (P1.out _ (HRD.out _ hb1)).mono ?_
       rintro e w2 ⟨A3, c3, rfl, hrd, hq⟩
       have hb2 := hb1.trans (hq.mono (HSS.out _ hb1))
       have xd2 := hrd
       clear hrd
       clear hq hb1 )
    | (have hq0 := hb0
       clear hq0
       go_at_call 11
       refine (awake_c _).mono ?_
       rintro e w1 ⟨rfl, hq⟩
       have hb1 := hb0.trans (hq.mono (HSS.out _ hb0))
       clear hq hb0 ))
  obtain ⟨gs, hgs⟩ : ∃ g, w2.heap.size = g := ⟨_, rfl⟩
  rw [hgs]
  have T2 : Keep (S ≤ gs) := ⟨by rw [← hgs]; exact HSS.out _ hb2⟩
  have qs3 : Has ((w2.alloc (.cells (vals .u64 (List.replicate N 0)) 23)).alloc (.cells (vals .u64 [128]) 23)) gs 23 (vals .u64 (List.replicate N 0)) := (Has.new' _ hgs.symm _ _).alloc _
  have qb3 : Has ((w2.alloc (.cells (vals .u64 (List.replicate N 0)) 23)).alloc (.cells (vals .u64 [128]) 23)) (gs + 1) 23 (vals .u64 [128]) := Has.new' _ (by simp only [World.size_alloc, hgs]) _ _
  have hb3 : Below w2.heap.size w2 ((w2.alloc (.cells (vals .u64 (List.replicate N 0)) 23)).alloc (.cells (vals .u64 [128]) 23)) := ((Below.refl _ _).alloc (Nat.le_refl _) _).alloc (by simp) _
  have rs3 : Rd ((w2.alloc (.cells (vals .u64 (List.replicate N 0)) 23)).alloc (.cells (vals .u64 [128]) 23)) ((w2.alloc (.cells (vals .u64 (List.replicate N 0)) 23)).alloc (.cells (vals .u64 [128]) 23)).heap.size (some ⟨gs, 0, none⟩) N .u64 (wd N (nxs 64 0 v)) := by
    have e : List.replicate N 0 = wd N (nxs 64 0 v) := by
      rw [H0.out]
      have h0 := wd_num (n := N) (words_zeros N) (by simp)
      rw [num_zeros] at h0
      exact h0.symm
    rw [← e]
    exact Rd.of_has qs3 qs3.lt (by rw [List.drop_zero, take_all (by simp)]) (by simp)
  have HB2 : Keep (Below S w w2) := ⟨hb2⟩
  have HSZ : Keep (S ≤ w2.heap.size) := ⟨HSS.out _ hb2⟩
  clear hb2 qs3 hmk
  go_loopg [9, 11] 0 (fun (gk : Nat) vs vi w10 => ∃ (As : Option Addr) (cs : Nat), gk ≤ 0 ∧ vs = .slice As N cs ∧ vi = .int .i64 ((gk : Int) - 1) ∧ Rd w10 w10.heap.size As N .u64 (wd N (nxs 64 gk v)) ∧ Has w10 (gs + 1) 23 (vals .u64 [128]) ∧ Below w2.heap.size w2 w10)
  case atStart => exact ⟨some ⟨gs, 0, none⟩, N, Nat.le_refl _, rfl, by go_num, rs3, qb3, hb3⟩
  case round =>
    clear rs3 qb3 hb3
    obtain ⟨As, cs, hk, rfl, rfl, rs10, qb10, hb10⟩ := hrel
    rcases gk with _ | i
    · have hbw := HB2.out.trans (hb10.mono HSZ.out)
      have ra := HRD.out _ hbw
      clear qb10
      go_wp2_with (go_at_call 36
                   refine (P5.out _ _ _ rs10 ra).mono ?_
                   rintro e w11 ⟨rfl, hq⟩
                   have hb11 := hbw.trans (hq.mono (HSS.out _ hbw)))
      go_ret
      exact ⟨rfl, hb11⟩
    · exact absurd hk (by omega)

set_option maxRecDepth 100000 in
set_option maxHeartbeats 4000000 in
theorem digits_7_some (A : Option Addr) (n c : Nat) (l : List Int) (w : World) (hr : Rd w w.heap.size A n .u64 l) (hwl : Words l) (hn : n ≤ 12) (k : Nat) (hds : digs 64 (64 * n) (num l) = tab (k + 1) (fun k => dg 64 (nxs 64 k (num l)))) (h0 : nxs 64 (k + 1) (num l) = 0) (hne : ∀ j, j < (k + 1) → nxs 64 j (num l) ≠ 0) (hmq : (k + 1) ≤ 64 * n / 7 + 1) : Calls Try.prog 9 #[.slice A n c, .int .i64 7] w fun e w' => e = .returned (.bool true) ∧ Below w.heap.size w w' := by
  have hlen : (tab (k + 1) (fun k => dg 64 (nxs 64 k (num l)))).length = (k + 1) := tab_len _ _
  have hll := hr.len
  have hv0 := num_bounds hwl
  rw [hll] at hv0
  obtain ⟨v, hv⟩ : ∃ v, num l = v := ⟨_, rfl⟩
  have HV : Keep (num l = v) := ⟨hv⟩
  have HW : Keep (Words l) := ⟨hwl⟩
  obtain ⟨N, hN⟩ : ∃ N, n + 2 = N := ⟨_, rfl⟩
  have hNi : (n : Int) + 2 = (N : Int) := by omega
  have hNb : 2 ≤ N ∧ N ≤ 14 := by omega
  have hroom := wp_room n
  have hmono : wp (n + 1) ≤ wp N := by rw [← hN]; exact wp_le (by omega)
  rw [hv] at hds h0 hne hlen hv0
  have P1 : Keep (∀ y : World, Rd y y.heap.size A n .u64 l → Calls Try.prog 30 #[.slice A n c, .int .i64 7] y fun e y' => ∃ A' c', e = .returned (.tuple #[.slice A' (k + 1) c', .int .i64 0]) ∧ Rd y' y'.heap.size A' (k + 1) .i64 (tab (k + 1) (fun k => dg 64 (nxs 64 k v))) ∧ Below y.heap.size y y') := ⟨fun y h => by
    have h1 := frWindows_7 A n c l y.heap.size y h hwl (Nat.le_refl _) (by omega)
    rw [HV.out, hds] at h1
    refine h1.mono ?_
    rintro e y' ⟨A', m', c', he, ho, hb⟩
    have hm' := ho.len
    rw [hlen] at hm'
    subst hm'
    exact ⟨A', c', he, ho.rd, hb⟩⟩
  have BD : Keep (∀ i, 0 ≤ nxs 64 i v ∧ nxs 64 i v < wp n) := ⟨fun i => by have := nxs_bounds (H := 64) (by omega) hv0.1 i; omega⟩
  have ST : Keep (∀ i, nxs 64 i v = dg 64 (nxs 64 i v) + 128 * nxs 64 (i + 1) v) := ⟨fun i => nx_eq (H := 64) (by omega)⟩
  have HR : Keep (wp n + 256 ≤ wp N) := ⟨by omega⟩
  have P5 : Keep (∀ (y : World) (As : Option Addr) (cs : Nat), Rd y y.heap.size As N .u64 (wd N (nxs 64 0 v)) → Rd y y.heap.size A n .u64 l → Calls Try.prog 36 #[.slice As N cs, .slice A n c] y fun e y' => e = .returned (.int .i64 0) ∧ Below y.heap.size y y') := ⟨fun y As cs h h' => by
    have h1 := cmp_c As N cs (wd N (nxs 64 0 v)) A n c l y.heap.size y h (wd_words _ _) h' hwl (Nat.le_refl _) (by omega) (by omega)
    have hb := BD.out 0
    have hz : cmpL (wd N (nxs 64 0 v)) l = 0 := by
      unfold cmpL
      rw [num_wd_of hb.1 (by have := HR.out; omega), HV.out]
      exact (if_neg (show ¬ v < v by omega)).trans (if_pos rfl)
    rw [hz] at h1
    exact h1⟩
  have P2 : Keep (∀ (i : Nat) (y : World) (As : Option Addr) (cs gb : Nat), Rd y y.heap.size As N .u64 (wd N (nxs 64 (i + 1) v)) → Has y gb 23 (vals .u64 [128]) → Calls Try.prog 33 #[.slice As N cs, .slice (some ⟨gb, 0, none⟩) 1 1] y fun e y' => ∃ g' c', e = .returned (.slice (some ⟨g', 0, none⟩) (N + 1) c') ∧ N + 1 ≤ c' ∧ Rd y' y'.heap.size (some ⟨g', 0, none⟩) N .u64 (wd N (nxs 64 (i + 1) v * 128)) ∧ Below y.heap.size y y') := ⟨fun i y As cs gb h h' => by
    have h1 := mulOwn_c As N cs _ (some ⟨gb, 0, none⟩) 1 1 [128] y.heap.size y h (wd_words _ _) (Rd.of_has h' h'.lt (by rfl) (by decide)) (words_of _ (by decide)) (Nat.le_refl _) (by omega) (by omega)
    have hb := BD.out (i + 1)
    rw [num_wd_of hb.1 (by have := HR.out; omega), show num [128] = 128 by decide] at h1
    refine h1.mono ?_
    rintro e y' ⟨A', c', he, ho, hb'⟩
    have hcap := ho.le_cap
    have hrd := ho.rd.take_ (m := N) (by omega)
    rw [wd_take] at hrd
    obtain ⟨g', rfl, -⟩ := ho.at_ (by omega)
    exact ⟨g', c', he, hcap, hrd, hb'⟩⟩
  have P3 : Keep (∀ (i : Nat) (zn : Int) (y : World) (As : Option Addr) (cs g : Nat), -dg 64 (nxs 64 i v) = zn → 0 ≤ zn → zn ≤ 64 → Rd y y.heap.size As N .u64 (wd N (nxs 64 (i + 1) v * 128)) → Has y g 23 (vals .u64 [zn]) → Calls Try.prog 34 #[.slice As N cs, .slice (some ⟨g, 0, none⟩) 1 1] y fun e y' => ∃ A' c' co, e = .returned (.tuple #[.slice A' N c', .int .u64 co]) ∧ Rd y' y'.heap.size A' N .u64 (wd N (nxs 64 i v)) ∧ Below y.heap.size y y') := ⟨fun i zn y As cs g hz hz0 hz1 h h' => by
    have h1 := sub_c As N cs _ (some ⟨g, 0, none⟩) 1 1 [zn] y.heap.size y h (wd_words _ _) (Rd.of_has h' h'.lt (by rfl) (by show 0 + 1 ≤ 1; omega)) (words_one hz0 (by omega)) (Nat.le_refl _) (by omega) (by omega)
    have hb := BD.out i
    have hb1 := BD.out (i + 1)
    have hs := ST.out i
    have hd := dg_bounds (H := 64) (v := nxs 64 i v) (by omega)
    have hr_ := HR.out
    have hn1 : num [zn] = zn := by rw [num_cons, num_nil]; omega
    have he : subL (wd N (nxs 64 (i + 1) v * 128)) [zn] = wd N (nxs 64 i v) := by
      rw [subL, wd_len, num_wd_of (by omega) (by omega), hn1, show max N [zn].length = N by simp; omega]
      congr 1
      omega
    rw [he, Nat.max_eq_left (by omega)] at h1
    refine h1.mono ?_
    rintro e y' ⟨A', c', he, ho, hb'⟩
    exact ⟨A', c', _, he, ho.rd, hb'⟩⟩
  have P4 : Keep (∀ (i : Nat) (zn : Int) (y : World) (As : Option Addr) (cs g : Nat), dg 64 (nxs 64 i v) = zn → 0 ≤ zn → zn ≤ 64 → Rd y y.heap.size As N .u64 (wd N (nxs 64 (i + 1) v * 128)) → Has y g 23 (vals .u64 [zn]) → Calls Try.prog 35 #[.slice As N cs, .slice (some ⟨g, 0, none⟩) 1 1] y fun e y' => ∃ A' c' co, e = .returned (.tuple #[.slice A' N c', .int .u64 co]) ∧ Rd y' y'.heap.size A' N .u64 (wd N (nxs 64 i v)) ∧ Below y.heap.size y y') := ⟨fun i zn y As cs g hz hz0 hz1 h h' => by
    have h1 := add_c As N cs _ (some ⟨g, 0, none⟩) 1 1 [zn] y.heap.size y h (wd_words _ _) (Rd.of_has h' h'.lt (by rfl) (by show 0 + 1 ≤ 1; omega)) (words_one hz0 (by omega)) (Nat.le_refl _) (by omega) (by omega)
    have hb := BD.out i
    have hb1 := BD.out (i + 1)
    have hs := ST.out i
    have hr_ := HR.out
    have hn1 : num [zn] = zn := by rw [num_cons, num_nil]; omega
    have he : addL (wd N (nxs 64 (i + 1) v * 128)) [zn] = wd N (nxs 64 i v) := by
      rw [addL, wd_len, num_wd_of (by omega) (by omega), hn1, show max N [zn].length = N by simp; omega]
      congr 1
      omega
    rw [he, Nat.max_eq_left (by omega)] at h1
    refine h1.mono ?_
    rintro e y' ⟨A', c', he, ho, hb'⟩
    exact ⟨A', c', _, he, ho.rd, hb'⟩⟩
  obtain ⟨z, hz⟩ : ∃ z, dg 64 (nxs 64 k v) = z := ⟨_, rfl⟩
  have hz0 : z ≠ 0 := by
    have h1 := ST.out k
    rw [h0, hz] at h1
    have h2 := hne k (by omega)
    omega
  have hz0' : (z == 0) = false := by rw [beq_eq_false_iff_ne]; exact hz0
  obtain ⟨K, hK⟩ : ∃ K, k + 1 = K := ⟨_, rfl⟩
  have hKi : (K : Int) - 1 = (k : Int) := by omega
  have hKp : 0 < K := by omega
  have hTN : nth (tab K (fun k => dg 64 (nxs 64 k v))) k = z := by rw [tab_nth _ (by omega)]; exact hz
  have HTN : Keep _ := ⟨hTN⟩
  have HTL : Keep ((tab K (fun k => dg 64 (nxs 64 k v))).length = K) := ⟨tab_len _ _⟩
  rw [hK] at P1 h0 hmq
  clear hTN hz hz0
  have hqm : K ≤ 64 * n / 7 + 1 := hmq
  obtain ⟨Q, hQ⟩ : ∃ Q, 64 * n / 7 = Q := ⟨_, rfl⟩
  have hQi : 64 * (n : Int) / 7 = (Q : Int) := by omega
  rw [hQ] at hqm
  have hQb : Q ≤ 400 := by omega
  have H0 : Keep (nxs 64 K v = 0) := ⟨h0⟩
  have hmk : ∀ w, (Instr.makeSlice 39 (.int .i64 N) (.int .i64 N)).run Try.prog w = .ok (.slice (some ⟨w.heap.size, 0, none⟩) N N) (w.alloc (.cells (vals .u64 (List.replicate N 0)) 23)) := fun w => run_make_vals w _ _ .u64 Try.underlying39 u64Elem .i64 .i64 N (by omega) (by omega)
  obtain ⟨S, hS⟩ : ∃ S, w.heap.size = S := ⟨_, rfl⟩
  have hsz0 : w.heap.size = S + 0 := hS
  have hb0 : Below S w w := Below.refl _ _
  have HSS : Keep (∀ x : World, Below S w x → S ≤ x.heap.size) := ⟨fun x hb => by have := hb.size; omega⟩
  rw [hS]
  have HRD : Keep (∀ x : World, Below S w x → Rd x x.heap.size A n .u64 l) := ⟨fun x hb => (hr.keep hb (by omega)).more (by have := HSS.out _ hb; omega)⟩
  clear hr hwl hds h0 hne hmq hlen hll hv0 hv hroom hmono hQ hN
  go_enter Try.func9, Try.ntmps9
  go_wp2_with (first
    | (have hq0 := hb1
       clear hq0
       go_at_call 30
       refine (P1.out _ (HRD.out _ hb1)).mono ?_
       rintro e w2 ⟨A3, c3, rfl, hrd, hq⟩
       have hb2 := hb1.trans (hq.mono (HSS.out _ hb1))
       have xd2 := hrd
       clear hrd
       obtain ⟨b3, o3, rfl, hlt3, hc3⟩ := xd2.at_ (by omega)
       have HDC : Keep (∀ x : World, Below w2.heap.size w2 x → ∀ j, j < K → x.cell? ⟨b3, o3 + j, none⟩ = some (.int .i64 (nth (tab K (fun k => dg 64 (nxs 64 k v))) j))) := ⟨fun x h j hj => (h.cell (p := ⟨b3, o3 + j, none⟩) hlt3).trans (hc3 j hj)⟩
       have c0 := hc3 k (by omega)
       rw [HTN.out] at c0
       clear hc3 xd2
       clear hq hb1 )
    | (have hq0 := hb0
       clear hq0
       go_at_call 11
       refine (awake_c _).mono ?_
       rintro e w1 ⟨rfl, hq⟩
       have hb1 := hb0.trans (hq.mono (HSS.out _ hb0))
       clear hq hb0 ))
  obtain ⟨gs, hgs⟩ : ∃ g, w2.heap.size = g := ⟨_, rfl⟩
  rw [hgs]
  have T2 : Keep (S ≤ gs) := ⟨by rw [← hgs]; exact HSS.out _ hb2⟩
  have qs3 : Has ((w2.alloc (.cells (vals .u64 (List.replicate N 0)) 23)).alloc (.cells (vals .u64 [128]) 23)) gs 23 (vals .u64 (List.replicate N 0)) := (Has.new' _ hgs.symm _ _).alloc _
  have qb3 : Has ((w2.alloc (.cells (vals .u64 (List.replicate N 0)) 23)).alloc (.cells (vals .u64 [128]) 23)) (gs + 1) 23 (vals .u64 [128]) := Has.new' _ (by simp only [World.size_alloc, hgs]) _ _
  have hb3 : Below w2.heap.size w2 ((w2.alloc (.cells (vals .u64 (List.replicate N 0)) 23)).alloc (.cells (vals .u64 [128]) 23)) := ((Below.refl _ _).alloc (Nat.le_refl _) _).alloc (by simp) _
  have rs3 : Rd ((w2.alloc (.cells (vals .u64 (List.replicate N 0)) 23)).alloc (.cells (vals .u64 [128]) 23)) ((w2.alloc (.cells (vals .u64 (List.replicate N 0)) 23)).alloc (.cells (vals .u64 [128]) 23)).heap.size (some ⟨gs, 0, none⟩) N .u64 (wd N (nxs 64 K v)) := by
    have e : List.replicate N 0 = wd N (nxs 64 K v) := by
      rw [H0.out]
      have h0 := wd_num (n := N) (words_zeros N) (by simp)
      rw [num_zeros] at h0
      exact h0.symm
    rw [← e]
    exact Rd.of_has qs3 qs3.lt (by rw [List.drop_zero, take_all (by simp)]) (by simp)
  have HB2 : Keep (Below S w w2) := ⟨hb2⟩
  have HSZ : Keep (S ≤ w2.heap.size) := ⟨HSS.out _ hb2⟩
  clear hb2 qs3 hmk
  go_loopg [9, 11] K (fun (gk : Nat) vs vi w10 => ∃ (As : Option Addr) (cs : Nat), gk ≤ K ∧ vs = .slice As N cs ∧ vi = .int .i64 ((gk : Int) - 1) ∧ Rd w10 w10.heap.size As N .u64 (wd N (nxs 64 gk v)) ∧ Has w10 (gs + 1) 23 (vals .u64 [128]) ∧ Below w2.heap.size w2 w10)
  case atStart => exact ⟨some ⟨gs, 0, none⟩, N, Nat.le_refl _, rfl, by first | rfl | (rw [hKi]) | go_num, rs3, qb3, hb3⟩
  case round =>
    clear rs3 qb3 hb3
    obtain ⟨As, cs, hk, rfl, rfl, rs10, qb10, hb10⟩ := hrel
    rcases gk with _ | i
    · have hbw := HB2.out.trans (hb10.mono HSZ.out)
      have ra := HRD.out _ hbw
      clear qb10
      go_wp2_with (go_at_call 36
                   refine (P5.out _ _ _ rs10 ra).mono ?_
                   rintro e w11 ⟨rfl, hq⟩
                   have hb11 := hbw.trans (hq.mono (HSS.out _ hbw)))
      go_ret
      exact ⟨rfl, hb11⟩
    · have e1 : ((i + 1 : Nat) : Int) - 1 = (i : Int) := by omega
      rw [e1]
      clear e1
      obtain ⟨y, hy⟩ : ∃ y, dg 64 (nxs 64 i v) = y := ⟨_, rfl⟩
      have hyb : -64 < y ∧ y ≤ 64 := by rw [← hy]; exact dg_bounds (by omega)
      have HY : Keep _ := ⟨hy⟩
      have HYC : Keep (∀ x : World, Below w2.heap.size w2 x → x.cell? ⟨b3, o3 + i, none⟩ = some (.int .i64 y)) := ⟨fun x h => by rw [HDC.out x h i (by omega), tab_nth _ (by omega)]; show some (Value.int IntKind.i64 (dg 64 (nxs 64 i v))) = _; rw [HY.out]⟩
      have c1 := HYC.out _ hb10
      have hKb : i < K := by omega
      clear hy
      by_cases hneg : y < 0
      · obtain ⟨zn, hzn⟩ : ∃ z, -y = z := ⟨_, rfl⟩
        have hznb : 0 < zn ∧ zn ≤ 64 := by omega
        have HZ : Keep (-dg 64 (nxs 64 i v) = zn) := ⟨by rw [HY.out]; exact hzn⟩
        go_wp2_with (first
          | (go_at_call 34
             have hal := (Below.refl w11.heap.size w11).alloc (Nat.le_refl _) (.cells (vals .u64 [zn]) 23)
             refine (P3.out i zn _ _ _ w11.heap.size HZ.out (by omega) (by omega) (rd_here rp11 hal) (Has.new _ _ _)).mono ?_
             rintro e w12 ⟨A5, c5, co, rfl, rs12, hq⟩
             have hbe := hal.trans (hq.mono hal.size)
             have qb12 := qb11.keep hbe
             have hb12 := hb11.trans (hbe.mono hb11.size)
             clear hal hq hbe rp11 qb11 hb11)
          | (go_at_call 33
             refine (P2.out i _ _ _ _ rs10 qb10).mono ?_
             rintro e w11 ⟨g4, c4, rfl, hc4, rp11, hq⟩
             have qb11 := qb10.keep hq
             have hb11 := hb10.trans (hq.mono hb10.size)
             have c2 := HYC.out _ hb11
             clear hq rs10 qb10 hb10 c1))
        go_roundg i
        case measure => omega
        case rel => exact ⟨A5, c5, by omega, rfl, by go_num, rs12, qb12, hb12⟩
      · have HZ : Keep (dg 64 (nxs 64 i v) = y) := ⟨HY.out⟩
        have hznb : 0 ≤ y ∧ y ≤ 64 := by omega
        go_wp2_with (first
          | (go_at_call 35
             have hal := (Below.refl w11.heap.size w11).alloc (Nat.le_refl _) (.cells (vals .u64 [y]) 23)
             refine (P4.out i y _ _ _ w11.heap.size HZ.out (by omega) (by omega) (rd_here rp11 hal) (Has.new _ _ _)).mono ?_
             rintro e w12 ⟨A5, c5, co, rfl, rs12, hq⟩
             have hbe := hal.trans (hq.mono hal.size)
             have qb12 := qb11.keep hbe
             have hb12 := hb11.trans (hbe.mono hb11.size)
             clear hal hq hbe rp11 qb11 hb11)
          | (go_at_call 33
             refine (P2.out i _ _ _ _ rs10 qb10).mono ?_
             rintro e w11 ⟨g4, c4, rfl, hc4, rp11, hq⟩
             have qb11 := qb10.keep hq
             have hb11 := hb10.trans (hq.mono hb10.size)
             have c2 := HYC.out _ hb11
             clear hq rs10 qb10 hb10 c1))
        go_roundg i
        case measure => omega
        case rel => exact ⟨A5, c5, by omega, rfl, by go_num, rs12, qb12, hb12⟩

set_option maxRecDepth 100000 in
set_option maxHeartbeats 4000000 in
theorem digits_7 (A : Option Addr) (n c : Nat) (l : List Int) (w : World) (hr : Rd w w.heap.size A n .u64 l) (hwl : Words l) (hn : n ≤ 12) : Calls Try.prog 9 #[.slice A n c, .int .i64 7] w fun e w' => e = .returned (.bool true) ∧ Below w.heap.size w w' := by
  obtain ⟨m, h1, h2, h3, h4, -⟩ := digs_shape (H := 64) (W := 7) rfl (by omega) (by omega) hwl hr.len
  rcases m with _ | k
  · exact digits_7_zero A n c l w hr hwl hn h1 h2 h3 h4
  · exact digits_7_some A n c l w hr hwl hn k h1 h2 h3 h4

set_option maxRecDepth 100000 in
set_option maxHeartbeats 4000000 in
theorem digits_8_zero (A : Option Addr) (n c : Nat) (l : List Int) (w : World) (hr : Rd w w.heap.size A n .u64 l) (hwl : Words l) (hn : n ≤ 12) (hds : digs 128 (64 * n) (num l) = tab 0 (fun k => dg 128 (nxs 128 k (num l)))) (h0 : nxs 128 0 (num l) = 0) (hne : ∀ j, j < 0 → nxs 128 j (num l) ≠ 0) (hmq : 0 ≤ 64 * n / 8 + 1) : Calls Try.prog 9 #[.slice A n c, .int .i64 8] w fun e w' => e = .returned (.bool true) ∧ Below w.heap.size w w' := by
  have hlen : (tab 0 (fun k => dg 128 (nxs 128 k (num l)))).length = 0 := tab_len _ _
  have hll := hr.len
  have hv0 := num_bounds hwl
  rw [hll] at hv0
  obtain ⟨v, hv⟩ : ∃ v, num l = v := ⟨_, rfl⟩
  have HV : Keep (num l = v) := ⟨hv⟩
  have HW : Keep (Words l) := ⟨hwl⟩
  obtain ⟨N, hN⟩ : ∃ N, n + 2 = N := ⟨_, rfl⟩
  have hNi : (n : Int) + 2 = (N : Int) := by omega
  have hNb : 2 ≤ N ∧ N ≤ 14 := by omega
  have hroom := wp_room n
  have hmono : wp (n + 1) ≤ wp N := by rw [← hN]; exact wp_le (by omega)
  rw [hv] at hds h0 hne hlen hv0
  have P1 : Keep (∀ y : World, Rd y y.heap.size A n .u64 l → Calls Try.prog 30 #[.slice A n c, .int .i64 8] y fun e y' => ∃ A' c', e = .returned (.tuple #[.slice A' 0 c', .int .i64 0]) ∧ Rd y' y'.heap.size A' 0 .i64 (tab 0 (fun k => dg 128 (nxs 128 k v))) ∧ Below y.heap.size y y') := ⟨fun y h => by
    have h1 := frWindows_8 A n c l y.heap.size y h hwl (Nat.le_refl _) (by omega)
    rw [HV.out, hds] at h1
    refine h1.mono ?_
    rintro e y' ⟨A', m', c', he, ho, hb⟩
    have hm' := ho.len
    rw [hlen] at hm'
    subst hm'
    exact ⟨A', c', he, ho.rd, hb⟩⟩
  have BD : Keep (∀ i, 0 ≤ nxs 128 i v ∧ nxs 128 i v < wp n) := ⟨fun i => by have := nxs_bounds (H := 128) (by omega) hv0.1 i; omega⟩
  have ST : Keep (∀ i, nxs 128 i v = dg 128 (nxs 128 i v) + 256 * nxs 128 (i + 1) v) := ⟨fun i => nx_eq (H := 128) (by omega)⟩
  have HR : Keep (wp n + 256 ≤ wp N) := ⟨by omega⟩
  have P5 : Keep (∀ (y : World) (As : Option Addr) (cs : Nat), Rd y y.heap.size As N .u64 (wd N (nxs 128 0 v)) → Rd y y.heap.size A n .u64 l → Calls Try.prog 36 #[.slice As N cs, .slice A n c] y fun e y' => e = .returned (.int .i64 0) ∧ Below y.heap.size y y') := ⟨fun y As cs h h' => by
    have h1 := cmp_c As N cs (wd N (nxs 128 0 v)) A n c l y.heap.size y h (wd_words _ _) h' hwl (Nat.le_refl _) (by omega) (by omega)
    have hb := BD.out 0
    have hz : cmpL (wd N (nxs 128 0 v)) l = 0 := by
      unfold cmpL
      rw [num_wd_of hb.1 (by have := HR.out; omega), HV.out]
      exact (if_neg (show ¬ v < v by omega)).trans (if_pos rfl)
    rw [hz] at h1
    exact h1⟩
  have hqm : 0 ≤ 64 * n / 8 + 1 := hmq
  obtain ⟨Q, hQ⟩ : ∃ Q, 64 * n / 8 = Q := ⟨_, rfl⟩
  have hQi : 64 * (n : Int) / 8 = (Q : Int) := by omega
  rw [hQ] at hqm
  have hQb : Q ≤ 400 := by omega
  have H0 : Keep (nxs 128 0 v = 0) := ⟨h0⟩
  have hmk : ∀ w, (Instr.makeSlice 39 (.int .i64 N) (.int .i64 N)).run Try.prog w = .ok (.slice (some ⟨w.heap.size, 0, none⟩) N N) (w.alloc (.cells (vals .u64 (List.replicate N 0)) 23)) := fun w => run_make_vals w _ _ .u64 Try.underlying39 u64Elem .i64 .i64 N (by omega) (by omega)
  obtain ⟨S, hS⟩ : ∃ S, w.heap.size = S := ⟨_, rfl⟩
  have hsz0 : w.heap.size = S + 0 := hS
  have hb0 : Below S w w := Below.refl _ _
  have HSS : Keep (∀ x : World, Below S w x → S ≤ x.heap.size) := ⟨fun x hb => by have := hb.size; omega⟩
  rw [hS]
  have HRD : Keep (∀ x : World, Below S w x → Rd x x.heap.size A n .u64 l) := ⟨fun x hb => (hr.keep hb (by omega)).more (by have := HSS.out _ hb; omega)⟩
  clear hr hwl hds h0 hne hmq hlen hll hv0 hv hroom hmono hQ hN
  go_enter Try.func9, Try.ntmps9
  go_wp2_with (first
    | (have hq0 := hb1
       clear hq0
       go_at_call 30
       refine (P1.out _ (HRD.out _ hb1)).mono ?_
       rintro e w2 ⟨A3, c3, rfl, hrd, hq⟩
       have hb2 := hb1.trans (hq.mono (HSS.out _ hb1))
       have xd2 := hrd
       clear hrd
       clear hq hb1 )
    | (have hq0 := hb0
       clear hq0
       go_at_call 11
       refine (awake_c _).mono ?_
       rintro e w1 ⟨rfl, hq⟩
       have hb1 := hb0.trans (hq.mono (HSS.out _ hb0))
       clear hq hb0 ))
  obtain ⟨gs, hgs⟩ : ∃ g, w2.heap.size = g := ⟨_, rfl⟩
  rw [hgs]
  have T2 : Keep (S ≤ gs) := ⟨by rw [← hgs]; exact HSS.out _ hb2⟩
  have qs3 : Has ((w2.alloc (.cells (vals .u64 (List.replicate N 0)) 23)).alloc (.cells (vals .u64 [256]) 23)) gs 23 (vals .u64 (List.replicate N 0)) := (Has.new' _ hgs.symm _ _).alloc _
  have qb3 : Has ((w2.alloc (.cells (vals .u64 (List.replicate N 0)) 23)).alloc (.cells (vals .u64 [256]) 23)) (gs + 1) 23 (vals .u64 [256]) := Has.new' _ (by simp only [World.size_alloc, hgs]) _ _
  have hb3 : Below w2.heap.size w2 ((w2.alloc (.cells (vals .u64 (List.replicate N 0)) 23)).alloc (.cells (vals .u64 [256]) 23)) := ((Below.refl _ _).alloc (Nat.le_refl _) _).alloc (by simp) _
  have rs3 : Rd ((w2.alloc (.cells (vals .u64 (List.replicate N 0)) 23)).alloc (.cells (vals .u64 [256]) 23)) ((w2.alloc (.cells (vals .u64 (List.replicate N 0)) 23)).alloc (.cells (vals .u64 [256]) 23)).heap.size (some ⟨gs, 0, none⟩) N .u64 (wd N (nxs 128 0 v)) := by
    have e : List.replicate N 0 = wd N (nxs 128 0 v) := by
      rw [H0.out]
      have h0 := wd_num (n := N) (words_zeros N) (by simp)
      rw [num_zeros] at h0
      exact h0.symm
    rw [← e]
    exact Rd.of_has qs3 qs3.lt (by rw [List.drop_zero, take_all (by simp)]) (by simp)
  have HB2 : Keep (Below S w w2) := ⟨hb2⟩
  have HSZ : Keep (S ≤ w2.heap.size) := ⟨HSS.out _ hb2⟩
  clear hb2 qs3 hmk
  go_loopg [9, 11] 0 (fun (gk : Nat) vs vi w10 => ∃ (As : Option Addr) (cs : Nat), gk ≤ 0 ∧ vs = .slice As N cs ∧ vi = .int .i64 ((gk : Int) - 1) ∧ Rd w10 w10.heap.size As N .u64 (wd N (nxs 128 gk v)) ∧ Has w10 (gs + 1) 23 (vals .u64 [256]) ∧ Below w2.heap.size w2 w10)
  case atStart => exact ⟨some ⟨gs, 0, none⟩, N, Nat.le_refl _, rfl, by go_num, rs3, qb3, hb3⟩
  case round =>
    clear rs3 qb3 hb3
    obtain ⟨As, cs, hk, rfl, rfl, rs10, qb10, hb10⟩ := hrel
    rcases gk with _ | i
    · have hbw := HB2.out.trans (hb10.mono HSZ.out)
      have ra := HRD.out _ hbw
      clear qb10
      go_wp2_with (go_at_call 36
                   refine (P5.out _ _ _ rs10 ra).mono ?_
                   rintro e w11 ⟨rfl, hq⟩
                   have hb11 := hbw.trans (hq.mono (HSS.out _ hbw)))
      go_ret
      exact ⟨rfl, hb11⟩
    · exact absurd hk (by omega)

set_option maxRecDepth 100000 in
set_option maxHeartbeats 4000000 in
theorem digits_8_some (A : Option Addr) (n c : Nat) (l : List Int) (w : World) (hr : Rd w w.heap.size A n .u64 l) (hwl : Words l) (hn : n ≤ 12) (k : Nat) (hds : digs 128 (64 * n) (num l) = tab (k + 1) (fun k => dg 128 (nxs 128 k (num l)))) (h0 : nxs 128 (k + 1) (num l) = 0) (hne : ∀ j, j < (k + 1) → nxs 128 j (num l) ≠ 0) (hmq : (k + 1) ≤ 64 * n / 8 + 1) : Calls Try.prog 9 #[.slice A n c, .int .i64 8] w fun e w' => e = .returned (.bool true) ∧ Below w.heap.size w w' := by
  have hlen : (tab (k + 1) (fun k => dg 128 (nxs 128 k (num l)))).length = (k + 1) := tab_len _ _
  have hll := hr.len
  have hv0 := num_bounds hwl
  rw [hll] at hv0
  obtain ⟨v, hv⟩ : ∃ v, num l = v := ⟨_, rfl⟩
  have HV : Keep (num l = v) := ⟨hv⟩
  have HW : Keep (Words l) := ⟨hwl⟩
  obtain ⟨N, hN⟩ : ∃ N, n + 2 = N := ⟨_, rfl⟩
  have hNi : (n : Int) + 2 = (N : Int) := by omega
  have hNb : 2 ≤ N ∧ N ≤ 14 := by omega
  have hroom := wp_room n
  have hmono : wp (n + 1) ≤ wp N := by rw [← hN]; exact wp_le (by omega)
  rw [hv] at hds h0 hne hlen hv0
  have P1 : Keep (∀ y : World, Rd y y.heap.size A n .u64 l → Calls Try.prog 30 #[.slice A n c, .int .i64 8] y fun e y' => ∃ A' c', e = .returned (.tuple #[.slice A' (k + 1) c', .int .i64 0]) ∧ Rd y' y'.heap.size A' (k + 1) .i64 (tab (k + 1) (fun k => dg 128 (nxs 128 k v))) ∧ Below y.heap.size y y') := ⟨fun y h => by
    have h1 := frWindows_8 A n c l y.heap.size y h hwl (Nat.le_refl _) (by omega)
    rw [HV.out, hds] at h1
    refine h1.mono ?_
    rintro e y' ⟨A', m', c', he, ho, hb⟩
    have hm' := ho.len
    rw [hlen] at hm'
    subst hm'
    exact ⟨A', c', he, ho.rd, hb⟩⟩
  have BD : Keep (∀ i, 0 ≤ nxs 128 i v ∧ nxs 128 i v < wp n) := ⟨fun i => by have := nxs_bounds (H := 128) (by omega) hv0.1 i; omega⟩
  have ST : Keep (∀ i, nxs 128 i v = dg 128 (nxs 128 i v) + 256 * nxs 128 (i + 1) v) := ⟨fun i => nx_eq (H := 128) (by omega)⟩
  have HR : Keep (wp n + 256 ≤ wp N) := ⟨by omega⟩
  have P5 : Keep (∀ (y : World) (As : Option Addr) (cs : Nat), Rd y y.heap.size As N .u64 (wd N (nxs 128 0 v)) → Rd y y.heap.size A n .u64 l → Calls Try.prog 36 #[.slice As N cs, .slice A n c] y fun e y' => e = .returned (.int .i64 0) ∧ Below y.heap.size y y') := ⟨fun y As cs h h' => by
    have h1 := cmp_c As N cs (wd N (nxs 128 0 v)) A n c l y.heap.size y h (wd_words _ _) h' hwl (Nat.le_refl _) (by omega) (by omega)
    have hb := BD.out 0
    have hz : cmpL (wd N (nxs 128 0 v)) l = 0 := by
      unfold cmpL
      rw [num_wd_of hb.1 (by have := HR.out; omega), HV.out]
      exact (if_neg (show ¬ v < v by omega)).trans (if_pos rfl)
    rw [hz] at h1
    exact h1⟩
  have P2 : Keep (∀ (i : Nat) (y : World) (As : Option Addr) (cs gb : Nat), Rd y y.heap.size As N .u64 (wd N (nxs 128 (i + 1) v)) → Has y gb 23 (vals .u64 [256]) → Calls Try.prog 33 #[.slice As N cs, .slice (some ⟨gb, 0, none⟩) 1 1] y fun e y' => ∃ g' c', e = .returned (.slice (some ⟨g', 0, none⟩) (N + 1) c') ∧ N + 1 ≤ c' ∧ Rd y' y'.heap.size (some ⟨g', 0, none⟩) N .u64 (wd N (nxs 128 (i + 1) v * 256)) ∧ Below y.heap.size y y') := ⟨fun i y As cs gb h h' => by
    have h1 := mulOwn_c As N cs _ (some ⟨gb, 0, none⟩) 1 1 [256] y.heap.size y h (wd_words _ _) (Rd.of_has h' h'.lt (by rfl) (by decide)) (words_of _ (by decide)) (Nat.le_refl _) (by omega) (by omega)
    have hb := BD.out (i + 1)
    rw [num_wd_of hb.1 (by have := HR.out; omega), show num [256] = 256 by decide] at h1
    refine h1.mono ?_
    rintro e y' ⟨A', c', he, ho, hb'⟩
    have hcap := ho.le_cap
    have hrd := ho.rd.take_ (m := N) (by omega)
    rw [wd_take] at hrd
    obtain ⟨g', rfl, -⟩ := ho.at_ (by omega)
    exact ⟨g', c', he, hcap, hrd, hb'⟩⟩
  have P3 : Keep (∀ (i : Nat) (zn : Int) (y : World) (As : Option Addr) (cs g : Nat), -dg 128 (nxs 128 i v) = zn → 0 ≤ zn → zn ≤ 128 → Rd y y.heap.size As N .u64 (wd N (nxs 128 (i + 1) v * 256)) → Has y g 23 (vals .u64 [zn]) → Calls Try.prog 34 #[.slice As N cs, .slice (some ⟨g, 0, none⟩) 1 1] y fun e y' => ∃ A' c' co, e = .returned (.tuple #[.slice A' N c', .int .u64 co]) ∧ Rd y' y'.heap.size A' N .u64 (wd N (nxs 128 i v)) ∧ Below y.heap.size y y') := ⟨fun i zn y As cs g hz hz0 hz1 h h' => by
    have h1 := sub_c As N cs _ (some ⟨g, 0, none⟩) 1 1 [zn] y.heap.size y h (wd_words _ _) (Rd.of_has h' h'.lt (by rfl) (by show 0 + 1 ≤ 1; omega)) (words_one hz0 (by omega)) (Nat.le_refl _) (by omega) (by omega)
    have hb := BD.out i
    have hb1 := BD.out (i + 1)
    have hs := ST.out i
    have hd := dg_bounds (H := 128) (v := nxs 128 i v) (by omega)
    have hr_ := HR.out
    have hn1 : num [zn] = zn := by rw [num_cons, num_nil]; omega
    have he : subL (wd N (nxs 128 (i + 1) v * 256)) [zn] = wd N (nxs 128 i v) := by
      rw [subL, wd_len, num_wd_of (by omega) (by omega), hn1, show max N [zn].length = N by simp; omega]
      congr 1
      omega
    rw [he, Nat.max_eq_left (by omega)] at h1
    refine h1.mono ?_
    rintro e y' ⟨A', c', he, ho, hb'⟩
    exact ⟨A', c', _, he, ho.rd, hb'⟩⟩
  have P4 : Keep (∀ (i : Nat) (zn : Int) (y : World) (As : Option Addr) (cs g : Nat), dg 128 (nxs 128 i v) = zn → 0 ≤ zn → zn ≤ 128 → Rd y y.heap.size As N .u64 (wd N (nxs 128 (i + 1) v * 256)) → Has y g 23 (vals .u64 [zn]) → Calls Try.prog 35 #[.slice As N cs, .slice (some ⟨g, 0, none⟩) 1 1] y fun e y' => ∃ A' c' co, e = .returned (.tuple #[.slice A' N c', .int .u64 co]) ∧ Rd y' y'.heap.size A' N .u64 (wd N (nxs 128 i v)) ∧ Below y.heap.size y y') := ⟨fun i zn y As cs g hz hz0 hz1 h h' => by
    have h1 := add_c As N cs _ (some ⟨g, 0, none⟩) 1 1 [zn] y.heap.size y h (wd_words _ _) (Rd.of_has h' h'.lt (by rfl) (by show 0 + 1 ≤ 1; omega)) (words_one hz0 (by omega)) (Nat.le_refl _) (by omega) (by omega)
    have hb := BD.out i
    have hb1 := BD.out (i + 1)
    have hs := ST.out i
    have hr_ := HR.out
    have hn1 : num [zn] = zn := by rw [num_cons, num_nil]; omega
    have he : addL (wd N (nxs 128 (i + 1) v * 256)) [zn] = wd N (nxs 128 i v) := by
      rw [addL, wd_len, num_wd_of (by omega) (by omega), hn1, show max N [zn].length = N by simp; omega]
      congr 1
      omega
    rw [he, Nat.max_eq_left (by omega)] at h1
    refine h1.mono ?_
    rintro e y' ⟨A', c', he, ho, hb'⟩
    exact ⟨A', c', _, he, ho.rd, hb'⟩⟩
  obtain ⟨z, hz⟩ : ∃ z, dg 128 (nxs 128 k v) = z := ⟨_, rfl⟩
  have hz0 : z ≠ 0 := by
    have h1 := ST.out k
    rw [h0, hz] at h1
    have h2 := hne k (by omega)
    omega
  have hz0' : (z == 0) = false := by rw [beq_eq_false_iff_ne]; exact hz0
  obtain ⟨K, hK⟩ : ∃ K, k + 1 = K := ⟨_, rfl⟩
  have hKi : (K : Int) - 1 = (k : Int) := by omega
  have hKp : 0 < K := by omega
  have hTN : nth (tab K (fun k => dg 128 (nxs 128 k v))) k = z := by rw [tab_nth _ (by omega)]; exact hz
  have HTN : Keep _ := ⟨hTN⟩
  have HTL : Keep ((tab K (fun k => dg 128 (nxs 128 k v))).length = K) := ⟨tab_len _ _⟩
  rw [hK] at P1 h0 hmq
  clear hTN hz hz0
  have hqm : K ≤ 64 * n / 8 + 1 := hmq
  obtain ⟨Q, hQ⟩ : ∃ Q, 64 * n / 8 = Q := ⟨_, rfl⟩
  have hQi : 64 * (n : Int) / 8 = (Q : Int) := by omega
  rw [hQ] at hqm
  have hQb : Q ≤ 400 := by omega
  have H0 : Keep (nxs 128 K v = 0) := ⟨h0⟩
  have hmk : ∀ w, (Instr.makeSlice 39 (.int .i64 N) (.int .i64 N)).run Try.prog w = .ok (.slice (some ⟨w.heap.size, 0, none⟩) N N) (w.alloc (.cells (vals .u64 (List.replicate N 0)) 23)) := fun w => run_make_vals w _ _ .u64 Try.underlying39 u64Elem .i64 .i64 N (by omega) (by omega)
  obtain ⟨S, hS⟩ : ∃ S, w.heap.size = S := ⟨_, rfl⟩
  have hsz0 : w.heap.size = S + 0 := hS
  have hb0 : Below S w w := Below.refl _ _
  have HSS : Keep (∀ x : World, Below S w x → S ≤ x.heap.size) := ⟨fun x hb => by have := hb.size; omega⟩
  rw [hS]
  have HRD : Keep (∀ x : World, Below S w x → Rd x x.heap.size A n .u64 l) := ⟨fun x hb => (hr.keep hb (by omega)).more (by have := HSS.out _ hb; omega)⟩
  clear hr hwl hds h0 hne hmq hlen hll hv0 hv hroom hmono hQ hN
  go_enter Try.func9, Try.ntmps9
  go_wp2_with (first
    | (have hq0 := hb1
       clear hq0
       go_at_call 30
       refine (P1.out _ (HRD.out _ hb1)).mono ?_
       rintro e w2 ⟨A3, c3, rfl, hrd, hq⟩
       have hb2 := hb1.trans (hq.mono (HSS.out _ hb1))
       have xd2 := hrd
       clear hrd
       obtain ⟨b3, o3, rfl, hlt3, hc3⟩ := xd2.at_ (by omega)
       have HDC : Keep (∀ x : World, Below w2.heap.size w2 x → ∀ j, j < K → x.cell? ⟨b3, o3 + j, none⟩ = some (.int .i64 (nth (tab K (fun k => dg 128 (nxs 128 k v))) j))) := ⟨fun x h j hj => (h.cell (p := ⟨b3, o3 + j, none⟩) hlt3).trans (hc3 j hj)⟩
       have c0 := hc3 k (by omega)
       rw [HTN.out] at c0
       clear hc3 xd2
       clear hq hb1 )
    | (have hq0 := hb0
       clear hq0
       go_at_call 11
       refine (awake_c _).mono ?_
       rintro e w1 ⟨rfl, hq⟩
       have hb1 := hb0.trans (hq.mono (HSS.out _ hb0))
       clear hq hb0 ))
  obtain ⟨gs, hgs⟩ : ∃ g, w2.heap.size = g := ⟨_, rfl⟩
  rw [hgs]
  have T2 : Keep (S ≤ gs) := ⟨by rw [← hgs]; exact HSS.out _ hb2⟩
  have qs3 : Has ((w2.alloc (.cells (vals .u64 (List.replicate N 0)) 23)).alloc (.cells (vals .u64 [256]) 23)) gs 23 (vals .u64 (List.replicate N 0)) := (Has.new' _ hgs.symm _ _).alloc _
  have qb3 : Has ((w2.alloc (.cells (vals .u64 (List.replicate N 0)) 23)).alloc (.cells (vals .u64 [256]) 23)) (gs + 1) 23 (vals .u64 [256]) := Has.new' _ (by simp only [World.size_alloc, hgs]) _ _
  have hb3 : Below w2.heap.size w2 ((w2.alloc (.cells (vals .u64 (List.replicate N 0)) 23)).alloc (.cells (vals .u64 [256]) 23)) := ((Below.refl _ _).alloc (Nat.le_refl _) _).alloc (by simp) _
  have rs3 : Rd ((w2.alloc (.cells (vals .u64 (List.replicate N 0)) 23)).alloc (.cells (vals .u64 [256]) 23)) ((w2.alloc (.cells (vals .u64 (List.replicate N 0)) 23)).alloc (.cells (vals .u64 [256]) 23)).heap.size (some ⟨gs, 0, none⟩) N .u64 (wd N (nxs 128 K v)) := by
    have e : List.replicate N 0 = wd N (nxs 128 K v) := by
      rw [H0.out]
      have h0 := wd_num (n := N) (words_zeros N) (by simp)
      rw [num_zeros] at h0
      exact h0.symm
    rw [← e]
    exact Rd.of_has qs3 qs3.lt (by rw [List.drop_zero, take_all (by simp)]) (by simp)
  have HB2 : Keep (Below S w w2) := ⟨hb2⟩
  have HSZ : Keep (S ≤ w2.heap.size) := ⟨HSS.out _ hb2⟩
  clear hb2 qs3 hmk
  go_loopg [9, 11] K (fun (gk : Nat) vs vi w10 => ∃ (As : Option Addr) (cs : Nat), gk ≤ K ∧ vs = .slice As N cs ∧ vi = .int .i64 ((gk : Int) - 1) ∧ Rd w10 w10.heap.size As N .u64 (wd N (nxs 128 gk v)) ∧ Has w10 (gs + 1) 23 (vals .u64 [256]) ∧ Below w2.heap.size w2 w10)
  case atStart => exact ⟨some ⟨gs, 0, none⟩, N, Nat.le_refl _, rfl, by first | rfl | (rw [hKi]) | go_num, rs3, qb3, hb3⟩
  case round =>
    clear rs3 qb3 hb3
    obtain ⟨As, cs, hk, rfl, rfl, rs10, qb10, hb10⟩ := hrel
    rcases gk with _ | i
    · have hbw := HB2.out.trans (hb10.mono HSZ.out)
      have ra := HRD.out _ hbw
      clear qb10
      go_wp2_with (go_at_call 36
                   refine (P5.out _ _ _ rs10 ra).mono ?_
                   rintro e w11 ⟨rfl, hq⟩
                   have hb11 := hbw.trans (hq.mono (HSS.out _ hbw)))
      go_ret
      exact ⟨rfl, hb11⟩
    · have e1 : ((i + 1 : Nat) : Int) - 1 = (i : Int) := by omega
      rw [e1]
      clear e1
      obtain ⟨y, hy⟩ : ∃ y, dg 128 (nxs 128 i v) = y := ⟨_, rfl⟩
      have hyb : -128 < y ∧ y ≤ 128 := by rw [← hy]; exact dg_bounds (by omega)
      have HY : Keep _ := ⟨hy⟩
      have HYC : Keep (∀ x : World, Below w2.heap.size w2 x → x.cell? ⟨b3, o3 + i, none⟩ = some (.int .i64 y)) := ⟨fun x h => by rw [HDC.out x h i (by omega), tab_nth _ (by omega)]; show some (Value.int IntKind.i64 (dg 128 (nxs 128 i v))) = _; rw [HY.out]⟩
      have c1 := HYC.out _ hb10
      have hKb : i < K := by omega
      clear hy
      by_cases hneg : y < 0
      · obtain ⟨zn, hzn⟩ : ∃ z, -y = z := ⟨_, rfl⟩
        have hznb : 0 < zn ∧ zn ≤ 128 := by omega
        have HZ : Keep (-dg 128 (nxs 128 i v) = zn) := ⟨by rw [HY.out]; exact hzn⟩
        go_wp2_with (first
          | (go_at_call 34
             have hal := (Below.refl w11.heap.size w11).alloc (Nat.le_refl _) (.cells (vals .u64 [zn]) 23)
             refine (P3.out i zn _ _ _ w11.heap.size HZ.out (by omega) (by omega) (rd_here rp11 hal) (Has.new _ _ _)).mono ?_
             rintro e w12 ⟨A5, c5, co, rfl, rs12, hq⟩
             have hbe := hal.trans (hq.mono hal.size)
             have qb12 := qb11.keep hbe
             have hb12 := hb11.trans (hbe.mono hb11.size)
             clear hal hq hbe rp11 qb11 hb11)
          | (go_at_call 33
             refine (P2.out i _ _ _ _ rs10 qb10).mono ?_
             rintro e w11 ⟨g4, c4, rfl, hc4, rp11, hq⟩
             have qb11 := qb10.keep hq
             have hb11 := hb10.trans (hq.mono hb10.size)
             have c2 := HYC.out _ hb11
             clear hq rs10 qb10 hb10 c1))
        go_roundg i
        case measure => omega
        case rel => exact ⟨A5, c5, by omega, rfl, by go_num, rs12, qb12, hb12⟩
      · have HZ : Keep (dg 128 (nxs 128 i v) = y) := ⟨HY.out⟩
        have hznb : 0 ≤ y ∧ y ≤ 128 := by omega
        go_wp2_with (first
          | (go_at_call 35
             have hal := (Below.refl w11.heap.size w11).alloc (Nat.le_refl _) (.cells (vals .u64 [y]) 23)
             refine (P4.out i y _ _ _ w11.heap.size HZ.out (by omega) (by omega) (rd_here rp11 hal) (Has.new _ _ _)).mono ?_
             rintro e w12 ⟨A5, c5, co, rfl, rs12, hq⟩
             have hbe := hal.trans (hq.mono hal.size)
             have qb12 := qb11.keep hbe
             have hb12 := hb11.trans (hbe.mono hb11.size)
             clear hal hq hbe rp11 qb11 hb11)
          | (go_at_call 33
             refine (P2.out i _ _ _ _ rs10 qb10).mono ?_
             rintro e w11 ⟨g4, c4, rfl, hc4, rp11, hq⟩
             have qb11 := qb10.keep hq
             have hb11 := hb10.trans (hq.mono hb10.size)
             have c2 := HYC.out _ hb11
             clear hq rs10 qb10 hb10 c1))
        go_roundg i
        case measure => omega
        case rel => exact ⟨A5, c5, by omega, rfl, by go_num, rs12, qb12, hb12⟩

set_option maxRecDepth 100000 in
set_option maxHeartbeats 4000000 in
theorem digits_8 (A : Option Addr) (n c : Nat) (l : List Int) (w : World) (hr : Rd w w.heap.size A n .u64 l) (hwl : Words l) (hn : n ≤ 12) : Calls Try.prog 9 #[.slice A n c, .int .i64 8] w fun e w' => e = .returned (.bool true) ∧ Below w.heap.size w w' := by
  obtain ⟨m, h1, h2, h3, h4, -⟩ := digs_shape (H := 128) (W := 8) rfl (by omega) (by omega) hwl hr.len
  rcases m with _ | k
  · exact digits_8_zero A n c l w hr hwl hn h1 h2 h3 h4
  · exact digits_8_some A n c l w hr hwl hn k h1 h2 h3 h4

theorem digits_w (A : Option Addr) (n c : Nat) (l : List Int) (v : Int) (w : World) (h : Rd w w.heap.size A n .u64 l ∧ Words l) : Calls Try.prog 9 #[.slice A n c, .int .i64 v] w fun e w' => e = .returned (.bool true) ∧ Below w.heap.size w w' := by
  by_cases hn : n ≤ 12
  · by_cases hv : v < 2 ∨ 8 < v
    · exact digits_no_ A n c l w v hv hn
    · rcases (show v = 2 ∨ v = 3 ∨ v = 4 ∨ v = 5 ∨ v = 6 ∨ v = 7 ∨ v = 8 by omega) with rfl | rfl | rfl | rfl | rfl | rfl | rfl
      · exact digits_2 A n c l w h.1 h.2 hn
      · exact digits_3 A n c l w h.1 h.2 hn
      · exact digits_4 A n c l w h.1 h.2 hn
      · exact digits_5 A n c l w h.1 h.2 hn
      · exact digits_6 A n c l w h.1 h.2 hn
      · exact digits_7 A n c l w h.1 h.2 hn
      · exact digits_8 A n c l w h.1 h.2 hn
  · exact digits_big A n c l w v (by omega)

end Go.Proofs.Ythaoebamnlmfpaa.Fr
