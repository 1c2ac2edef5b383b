/-
  Own text. The contract of Pow of layer 7's landed package.
-/
import Derived.Test.YtdldebceailgdaaDoorFp2Own
import Derived.Test.YtdldebceailgdaaDoorRegH
import Derived.Test.YtdldebceailgdaaDoorMLimbR
import Derived.Deep.LoopGhost
namespace Go.Proofs.YtdldebceailgdaaDoor.Fp2
set_option linter.unusedVariables false
set_option linter.unusedSimpArgs false
open Go Go.RowKit Go.Proofs.YtdldebceailgdaaDoor.Reg Go.Proofs.YtdldebceailgdaaDoor.Base Go.Proofs.YtdldebceailgdaaDoor.Limb Go.Proofs.YtdldebceailgdaaDoor.Fp Go.Proofs.YtdldebceailgdaaDoor.Bits

/-- A table whose first k rows are powers. -/
structure Rows2 (p : G) (k : Nat) (T : List Int) : Prop where
  len : T.length = 192
  row : ∀ j, j < k → (T.drop (12 * j)).take 12 = F2 (gp p j)
def tab2 : List Int := [1, 0, 0, 0, 0, 0, 0, 0, 0, 0, 0, 0] ++ List.replicate 180 0
theorem F2_one : F2 (1, 0) = [1, 0, 0, 0, 0, 0, 0, 0, 0, 0, 0, 0] := by decide +kernel
theorem Rows2.none (p : G) : Rows2 p 1 tab2 :=
  ⟨by decide +kernel, fun j hj => by
    obtain rfl : j = 0 := by omega
    show _ = F2 (1, 0)
    rw [F2_one]
    decide +kernel⟩
theorem Rows2.more {p : G} {k : Nat} {T ys : List Int} (h : Rows2 p k T) (hk : k < 16) (hy : F2 (gp p k) = ys) : Rows2 p (k + 1) (T.take (12 * k) ++ (ys ++ T.drop (12 * k + ys.length))) := by
  have hl := h.len
  have hyl : ys.length = 12 := hy ▸ (Nm.F2 _).len
  have h1 : (T.take (12 * k)).length = 12 * k := by rw [List.length_take]; omega
  refine ⟨by rw [List.length_append, List.length_append, h1, List.length_drop]; omega, fun j hj => ?_⟩
  rcases Nat.lt_or_ge j k with hlt | hge
  · rw [← h.row j hlt]
    apply List.ext_getElem?
    intro i
    rw [List.getElem?_take, List.getElem?_take]
    split
    · rw [List.getElem?_drop, List.getElem?_drop, List.getElem?_append_left (by omega), List.getElem?_take, if_pos (by omega)]
    · rfl
  · obtain rfl : j = k := by omega
    rw [List.drop_left' h1, List.take_left' hyl, hy]
/-- A number's next digit of four bits. -/
theorem digit4 {l : List Int} (hw : Words l) {i s : Nat} (hi : i < l.length) (hs : s + 4 ≤ 64) : num l / tp (64 * i + s) = 16 * (num l / tp (64 * i + (s + 4))) + nth l i / 2 ^ s % 16 := by
  obtain ⟨V, hV⟩ : ∃ V, num l / tp (64 * i + s) = V := ⟨_, rfl⟩
  have h16 : num l / tp (64 * i + (s + 4)) = V / 16 := by
    rw [← hV, ← Nat.add_assoc, tp_add, ← Int.ediv_ediv_of_nonneg (Int.le_of_lt (tp_pos _))]
    rfl
  have hm : V % 16 = nth l i / 2 ^ s % 16 := by
    have e1 : num l / tp (64 * i) = num (l.drop i) := by
      rw [num_split l i (by omega), tp_wp]
      rw [Int.add_mul_ediv_left _ _ (by have := wp_pos i; omega), Int.ediv_eq_zero_of_lt (low_bounds hw i).1 (low_bounds hw i).2, Int.zero_add]
    have e2 : V = (nth l i + 18446744073709551616 * num (l.drop (i + 1))) / tp s := by
      rw [← hV, tp_add, ← Int.ediv_ediv_of_nonneg (Int.le_of_lt (tp_pos _)), e1, num_drop hi]
    obtain ⟨t, ht⟩ : ∃ t, s + 4 + t = 64 := ⟨60 - s, by omega⟩
    have e3 : (18446744073709551616 : Int) = tp s * (16 * tp t) := by
      have : tp 64 = tp s * (16 * tp t) := by
        rw [← ht, tp_add, tp_add, Int.mul_assoc]
        rfl
      rw [← this]
      decide
    rw [e2, e3, Int.mul_assoc, Int.add_mul_ediv_left _ _ (by have := tp_pos s; omega), Int.mul_assoc, Int.add_mul_emod_self_left]
    rfl
  rw [h16, hV, ← hm]
  omega
theorem gp_dbl (p : G) (x : Nat) : E2 (gm (v2 (F2 (gp p x))) (v2 (F2 (gp p x)))) (gp p (2 * x)) := by
  rw [show 2 * x = x + x by omega, gp_add]
  exact gm_congr (v2_F2 _) (v2_F2 _)
/-- A power that is 1 stays 1. -/
theorem gp_ones (p : G) {x : Nat} (h : F2 (gp p x) = [1, 0, 0, 0, 0, 0, 0, 0, 0, 0, 0, 0]) : F2 (gp p (16 * x)) = [1, 0, 0, 0, 0, 0, 0, 0, 0, 0, 0, 0] := by
  have step : ∀ {y : Nat}, F2 (gp p y) = F2 (1, 0) → F2 (gp p (2 * y)) = F2 (1, 0) := fun {y} h => by
    rw [show 2 * y = y + y by omega, gp_add]
    refine F2_eq ((gm_congr (F2_inj h) (F2_inj h)).trans ?_)
    rw [gm_one]
    exact E2.rfl
  rw [← F2_one] at h ⊢
  have := step (step (step (step h)))
  rwa [show 2 * (2 * (2 * (2 * x))) = 16 * x by omega] at this
theorem gp_digit (p : G) {x d : Nat} {o : List Int} (h : F2 (gp p x) = o) : F2 (gm (v2 o) (v2 (F2 (gp p d)))) = F2 (gp p (x + d)) := by
  subst h
  rw [gp_add]
  exact F2_eq (gm_congr (v2_F2 _) (v2_F2 _))
theorem mul_0 (a : List Int) (k : Nat) : F2 (gm (v2 (F2 (gp (v2 a) k))) (v2 a)) = F2 (gp (v2 a) (k + 1)) := F2_eq (gm_congr (v2_F2 _) E2.rfl)
/-- Where a digit lies. -/
theorem place16 {n m : Nat} (h : m + 1 ≤ 16 * n) : ∃ i j r q : Nat, m = 16 * i + r ∧ r + q = 15 ∧ n = i + 1 + j ∧ 16 * n - (m + 1) = 16 * j + q := ⟨m / 16, n - 1 - m / 16, m % 16, 15 - m % 16, by omega, by omega, by omega, by omega⟩

set_option maxRecDepth 100000 in
set_option maxHeartbeats 4000000 in
theorem lPow2 (a : List Int) (ha : Nm 12 a) (A : Option Addr) (n c : Nat) (l : List Int) (B : Nat) (w : World) (hG : Glob w) (hr : Rd w B A n .u64 l) (hwl : Words l) (hB : B ≤ w.heap.size) (hn : n ≤ 10000) : Calls Tryd.prog 30 #[.agg (vals .u64 a), .slice A n c] w fun e w' => e = .returned (.agg (vals .u64 (F2 (gp (v2 a) (num l).toNat)))) ∧ Below w.heap.size w w' := by
  have LN : Keep _ := ⟨hr.len⟩
  have LW : Keep _ := ⟨hwl⟩
  have LA : Keep (Nm 12 a) := ⟨ha⟩
  obtain ⟨p, hp⟩ : ∃ p, v2 a = p := ⟨_, rfl⟩
  have HX : Keep _ := ⟨hp⟩
  clear hwl ha
  obtain ⟨S, hS⟩ : ∃ S, w.heap.size = S := ⟨_, rfl⟩
  have hA0 : Has ((w.alloc (.cells (vals .u64 a) 26)).alloc (.cells (vals .u64 Z12) 26)) S 26 (vals .u64 a) := (Has.new' _ hS.symm _ _).alloc _
  have hR0 : Has ((w.alloc (.cells (vals .u64 a) 26)).alloc (.cells (vals .u64 Z12) 26)) (S + 1) 26 (vals .u64 Z12) := Has.new' _ (by rw [World.size_alloc, hS]) _ _
  have hs0 : ((w.alloc (.cells (vals .u64 a) 26)).alloc (.cells (vals .u64 Z12) 26)).heap.size = S + 2 := by rw [World.size_alloc, World.size_alloc, hS]
  have hb0 : Below S w ((w.alloc (.cells (vals .u64 a) 26)).alloc (.cells (vals .u64 Z12) 26)) := by rw [← hS]; exact ((Below.refl _ _).alloc (Nat.le_refl _) _).alloc (by simp) _
  have hO0 : Has (((w.alloc (.cells (vals .u64 a) 26)).alloc (.cells (vals .u64 Z12) 26)).alloc (.cells (vals .u64 Z12) 26)) (S + 1 + 1) 26 (vals .u64 Z12) := Has.new' _ hs0.symm _ _
  have hA0' := hA0.alloc (.cells (vals .u64 Z12) 26)
  have hR0' := hR0.alloc (.cells (vals .u64 Z12) 26)
  have hb0' := hb0.alloc (by omega) (.cells (vals .u64 Z12) 26)
  have HS0 : Keep (S ≤ w.heap.size) := ⟨by omega⟩
  have HSS : Keep (∀ w', Below S w w' → S ≤ w'.heap.size) := ⟨fun w' hb => Nat.le_trans HS0.out hb.size⟩
  have HGG : Keep (∀ w', Below S w w' → Glob w') := ⟨fun w' hb => hG.keep (by rw [hS]; exact hb)⟩
  have HRD : Keep (∀ w', Below S w w' → Rd w' B A n .u64 l) := ⟨fun w' hb => hr.keep hb (by omega)⟩
  have HBS : Keep (B ≤ S) := ⟨by omega⟩
  rw [hp, hS]
  clear hr hG hB hp hA0 hR0 hb0 hs0
  go_enter Tryd.func30, Tryd.ntmps30
  go_wp2_with (first
    | (refine wpList_buildTo (by rfl) 24 #[(0, .const (.int .u64 1))] (by rfl) (some 13) (by rfl) (vals .u64 [1, 0, 0, 0, 0, 0]) (by kernel_rfl) ?_)
    | (have q1 := f1
       refine wpList_buildTo (by rfl) 45 #[(0, .tmp 15)] (by rfl) (some 16) (by rfl) (vals .u64 tab2) (by kernel_rfl) ?_)
    | (refine wpList_buildTo (by rfl) 26 #[(0, .tmp 13)] (by rfl) (some 14) (by rfl) (vals .u64 [1, 0, 0, 0, 0, 0, 0, 0, 0, 0, 0, 0]) (by kernel_rfl) ?_)
    | (have q1 := f1
       refine wpList_load_row rfl 26 (.tmp 5) rfl (S + 1 + 1) rfl _ _ _ _ hO1.eq Tryd.underlying26 rfl (by kernel_rfl) ?_)
    | (have q1 := f1
       refine store_abs2 (by rfl) 45 (.tmp 6) (.tmp 16) (by rfl) (by rfl) w1.heap.size (vals .u64 tab2) (by rfl) (by rfl) 45 _ (Has.new _ _ _) (by kernel_rfl) (by kernel_rfl) (by kernel_rfl) ?_
       intro w2 hT2 hkeep hbg
       have hlt1 := hO1.lt
       have hO2 := hkeep _ _ _ (hO1.alloc _) (by omega)
       have hA2 := hkeep _ _ _ (hA1.alloc _) (by omega)
       have hR2 := hkeep _ _ _ (hR1.alloc _) (by omega)
       have hb2 := (hb1.alloc (HSS.out _ hb1) (.cells Tryd.zeroCells45 45)).trans (hbg.mono (by omega))
       clear hkeep hbg hO1 hA1 hR1 hb1)
    | (refine store_abs2 (by rfl) 26 (.tmp 5) (.tmp 14) (by rfl) (by rfl) (S + 1 + 1) (vals .u64 [1, 0, 0, 0, 0, 0, 0, 0, 0, 0, 0, 0]) (by rfl) (by rfl) 26 (vals .u64 Z12) hO0 (by kernel_rfl) (by rfl) vals_one ?_
       intro w1 hO1 hkeep hbg
       have f1 := True.intro
       have hA1 := hkeep _ _ _ hA0' (by omega)
       have hR1 := hkeep _ _ _ hR0' (by omega)
       have hb1 := hb0'.trans (hbg.mono (by omega))
       clear hkeep hbg hA0' hR0' hb0' hO0))
  obtain ⟨g6, hg6⟩ : ∃ g, w1.heap.size = g := ⟨_, rfl⟩
  rw [hg6] at hT2 hlt1 ⊢
  have nT : S + 1 + 1 < g6 := hlt1
  clear hg6 hlt1 f1
  go_loopg [17] 15 (fun (gk : Nat) vi wr => ∃ i T, i + gk = 15 ∧ vi = .int .i64 (i : Int) ∧ Keep (Rows2 p (i + 1) T) ∧ Has wr g6 45 (vals .u64 T) ∧ Has wr S 26 (vals .u64 a) ∧ Has wr (S + 1) 26 (vals .u64 Z12) ∧ Has wr (S + 1 + 1) 26 (vals .u64 [1, 0, 0, 0, 0, 0, 0, 0, 0, 0, 0, 0]) ∧ Below S w wr)
  case atStart => exact ⟨0, tab2, rfl, rfl, ⟨Rows2.none p⟩, hT2, hA2, hR2, hO2, hb2⟩
  case round =>
    clear hT2 hA2 hR2 hO2 hb2
    obtain ⟨i, T, hk, rfl, HT, hT, hA, hR, hO, hb⟩ := hrel
    rcases gk with _ | m
    · obtain rfl : i = 15 := by omega
      have HE0 : Keep ([1, 0, 0, 0, 0, 0, 0, 0, 0, 0, 0, 0] = F2 (gp p (num l / tp (4 * (16 * n))).toNat)) := ⟨by
        have hb := num_bounds LW.out
        rw [LN.out] at hb
        rw [show 4 * (16 * n) = 64 * n by omega, tp_wp, Int.ediv_eq_zero_of_lt hb.1 hb.2]
        exact F2_one.symm⟩
      clear hA hk
      go_wp2_with (first
        | (refine wpList_load_row rfl 26 (.tmp 5) rfl (S + 1 + 1) rfl _ _ _ _ hO.eq Tryd.underlying26 rfl (by kernel_rfl) ?_)
        | (refine store_abs2 (by rfl) 26 (.tmp 8) (.tmp 29) (by rfl) (by rfl) wr.heap.size (vals .u64 [1, 0, 0, 0, 0, 0, 0, 0, 0, 0, 0, 0]) (by rfl) (by rfl) 26 (vals .u64 Z12) (Has.new' _ rfl _ _) (by kernel_rfl) (by rfl) vals_one ?_
           intro w5 hP5 hkeep hbg
           have hltT := hT.lt
           have hltO := hO.lt
           rw [HE0.out] at hP5
           have hbe := ((Below.refl wr.heap.size wr).alloc (Nat.le_refl _) (.cells (vals .u64 Z12) 26)).trans hbg
           have hT5 := hT.keep hbe
           have hR5 := hR.keep hbe
           have hO5 := hO.keep hbe
           have hb5 := hb.trans (hbe.mono (HSS.out _ hb))
           clear hkeep hbg hbe hT hR hO hb))
      obtain ⟨g8, hg8⟩ : ∃ g, wr.heap.size = g := ⟨_, rfl⟩
      rw [hg8] at hltT hltO hP5 ⊢
      clear hg8
      go_loopg [33] (16 * n) (fun (gk : Nat) vi wr => gk ≤ 16 * n ∧ vi = .int .i64 (((16 * n - gk : Nat) : Nat) : Int) ∧ Has wr g8 26 (vals .u64 (F2 (gp p (num l / tp (4 * gk)).toNat))) ∧ Has wr g6 45 (vals .u64 T) ∧ Has wr (S + 1) 26 (vals .u64 Z12) ∧ Has wr (S + 1 + 1) 26 (vals .u64 [1, 0, 0, 0, 0, 0, 0, 0, 0, 0, 0, 0]) ∧ Below S w wr)
      case atStart => exact ⟨Nat.le_refl _, by rw [Nat.sub_self]; rfl, hP5, hT5, hR5, hO5, hb5⟩
      case round =>
        clear hP5 hT5 hR5 hO5 hb5
        obtain ⟨hk, rfl, hP, hT, hR, hO, hb⟩ := hrel
        rcases gk with _ | m
        · obtain ⟨o, ho⟩ : ∃ o, F2 (gp p (num l / tp (4 * 0)).toNat) = o := ⟨_, rfl⟩
          rw [ho] at hP
          have OL : Keep (Nm 12 o) := ⟨ho ▸ .F2 _⟩
          have FIN : Keep (o = F2 (gp p (num l).toNat)) := ⟨by rw [← ho, Nat.mul_zero, tp_zero, Int.ediv_one]⟩
          obtain ⟨D, hD⟩ : ∃ D : Nat, 16 * n - 0 = D := ⟨_, rfl⟩
          have hD2 : (n : Int) * 16 = (D : Int) := by omega
          rw [hD]
          clear ho hD hk
          go_wp2_with (first
            | (refine wpList_load_row rfl 26 (.tmp 8) rfl g8 rfl _ _ _ _ hP.eq Tryd.underlying26 rfl (by rw [vals_size, OL.out.len]; kernel_rfl) ?_)
            | (refine wpList_store_rowTo rfl 26 (.tmp 4) (.tmp 69) rfl rfl (S + 1) (vals .u64 o) rfl rfl _ _ hR.eq (by rw [vals_size, OL.out.len]; kernel_rfl) (by rw [vals_size, vals_size, OL.out.len]; rfl) vals_one ?_))
          refine bodyPost_ret (v := .agg (vals .u64 o)) (results_cell_row rfl _ _ (S + 1) _ _ _ _ rfl (hR.row _).eq Tryd.underlying26 rfl (by rw [vals_size, OL.out.len]; kernel_rfl)) rfl ⟨ret_eq (by rw [FIN.out]), below_row hb (by omega) _⟩
        · obtain ⟨i, j, r, q, hm, hrq, hnj, hD⟩ := place16 hk
          obtain ⟨y, hy⟩ : ∃ y, nth l i = y := ⟨_, rfl⟩
          have by' : 0 ≤ y ∧ y ≤ 18446744073709551615 := hy ▸ LW.out i
          obtain ⟨b1, o1, rfl, hlb1, hc1⟩ := (HRD.out _ hb).at_ (by omega)
          have HC : Keep (∀ w', Below S w w' → w'.cell? ⟨b1, o1 + i, none⟩ = some (.int .u64 y)) := ⟨fun w' hb' => by
            rw [← hy]
            exact rd_cell (HRD.out _ hb') (Below.refl _ _) (Nat.le_refl _) (by omega)⟩
          obtain ⟨X, hX⟩ : ∃ X, (num l / tp (4 * (m + 1))).toNat = X := ⟨_, rfl⟩
          have hdig := digit4 LW.out (i := i) (s := 4 * r) (by rw [LN.out]; omega) (by omega)
          rw [show 64 * i + 4 * r = 4 * m by omega, show 64 * i + (4 * r + 4) = 4 * (m + 1) by omega, hy] at hdig
          have h0 : 0 ≤ num l / tp (4 * (m + 1)) := Int.ediv_nonneg (num_bounds LW.out).1 (Int.le_of_lt (tp_pos _))
          have hsb := shr_bounds by'.1 by'.2 (4 * r)
          rw [hX] at hP
          obtain ⟨z, hz⟩ : ∃ z, y / 2 ^ (4 * r) = z := ⟨_, rfl⟩
          rw [hz] at hdig hsb
          obtain ⟨d, hd⟩ : ∃ d : Nat, z % 16 = (d : Int) := Int.eq_ofNat_of_zero_le (Int.emod_nonneg _ (by decide))
          have hd16 : d < 16 := by omega
          rw [hd] at hdig
          have HE : Keep ((num l / tp (4 * m)).toNat = 16 * X + d) := ⟨by rw [hdig, ← hX]; omega⟩
          obtain ⟨D, hDD⟩ : ∃ D : Nat, 16 * n - (m + 1) = D := ⟨_, rfl⟩
          have hDn : D + (m + 1) = 16 * n := by omega
          have QK : Keep (D = 16 * j + q ∧ r + q = 15 ∧ n = i + 1 + j ∧ D + (m + 1) = 16 * n ∧ y / 2 ^ (4 * r) = z ∧ z % 16 = (d : Int) ∧ 0 ≤ z ∧ z ≤ 18446744073709551615 ∧ n ≤ 10000 ∧ 0 ≤ y ∧ y ≤ 18446744073709551615) := ⟨by omega, hrq, hnj, hDn, hz, hd, hsb.1, hsb.2, hn, by'⟩
          rw [hDD]
          have hlt : decide ((D : Int) < (n : Int) * 16) = true := decide_eq_true (by omega)
          have hD5 : D < 160000 := by omega
          clear hdig h0 hsb hX hz hd hy hc1 hm hrq hnj hD hDD hk by'
          obtain ⟨o, ho⟩ : ∃ o, F2 (gp p X) = o := ⟨_, rfl⟩
          rw [ho] at hP
          have hgd := gd2
          by_cases h1 : o = [1, 0, 0, 0, 0, 0, 0, 0, 0, 0, 0, 0]
          · subst h1
            have OL : Keep (Nm 12 [1, 0, 0, 0, 0, 0, 0, 0, 0, 0, 0, 0]) := ⟨⟨rfl, words_of _ (by decide)⟩⟩
            have E1 := eq12 [1, 0, 0, 0, 0, 0, 0, 0, 0, 0, 0, 0] rfl
            have H16 : Keep (F2 (gp p (16 * X)) = [1, 0, 0, 0, 0, 0, 0, 0, 0, 0, 0, 0]) := ⟨gp_ones p ho⟩
            clear ho
            obtain ⟨hD, hrq, hnj, hDn, hz, hd, hz0, hz1, hn', hy0, hy1⟩ := QK.out
            have hC := HC.out _ hb
            have hq1 : (D : Int).tdiv 16 = (j : Int) := by rw [Int.tdiv_eq_ediv_of_nonneg (by omega)]; omega
            have hq2 : (D : Int).tmod 16 = (q : Int) := by rw [Int.tmod_eq_emod_of_nonneg (by omega)]; omega
            have hi1 : (n : Int) - 1 - (j : Int) = (i : Int) := by omega
            have hr1 : (15 : Int) - (q : Int) = (r : Int) := by omega
            have hs1 : (r : Int) * 4 = ((4 * r : Nat) : Int) := by omega
            have hin : i < n := by omega
            have hr16 : r < 16 := by omega
            have hj5 : j < 10000 := by omega
            have hq5 : q < 16 := by omega
            obtain ⟨sh, hsh⟩ : ∃ sh, 4 * r = sh := ⟨_, rfl⟩
            have hs60 : sh ≤ 60 := by omega
            rw [hsh] at hs1 hz
            have hdt : z.tmod 16 = (d : Int) := by rw [Int.tmod_eq_emod_of_nonneg hz0, hd]
            clear hD hrq hnj hDn hsh
            rcases Nat.eq_zero_or_pos d with hd0 | hd0
            · subst hd0
              have FIN : Keep ([1, 0, 0, 0, 0, 0, 0, 0, 0, 0, 0, 0] = F2 (gp p (num l / tp (4 * m)).toNat)) := ⟨by rw [HE.out, ← H16.out]; rfl⟩
              go_wp2_with (first
                | (refine wpList_load_row rfl 26 (.tmp 8) rfl g8 rfl _ _ _ _ hP.eq Tryd.underlying26 rfl (by kernel_rfl) ?_)
                | (refine wpList_load_row rfl 26 (.tmp 5) rfl (S + 1 + 1) rfl _ _ _ _ hO.eq Tryd.underlying26 rfl (by kernel_rfl) ?_))
              go_roundg m
              case measure => omega
              case rel => exact ⟨by omega, by have := QK.out; simp only [Value.int.injEq, true_and]; omega, by rw [← FIN.out]; exact hP, hT, hR, hO, hb⟩
            · have hne : (d : Int) ≠ 0 := by omega
              have hnb : ((d : Int) == 0) = false := by simpa using hne
              have hnd : decide ((d : Int) = 0) = false := decide_eq_false hne
              obtain ⟨ps, hps⟩ : ∃ q, F2 (gp p d) = q := ⟨_, rfl⟩
              obtain ⟨qs, hqs⟩ : ∃ q, F2 (gp p (num l / tp (4 * m)).toNat) = q := ⟨_, rfl⟩
              have LQ : Keep (qs.length = 12) := ⟨hqs ▸ (Nm.F2 _).len⟩
              have SEG : Keep (ps = (T.drop (d * 12)).take 12) := ⟨by rw [Nat.mul_comm, HT.out.row d (by omega), hps]⟩
              have TL : Keep (d * 12 + 12 ≤ T.length) := ⟨by rw [HT.out.len]; omega⟩
              have HQS : Keep _ := ⟨hqs⟩
              have ML : Keep (∀ w', Below wr.heap.size wr w' → Calls Tryd.prog 24 #[.agg (vals .u64 [1, 0, 0, 0, 0, 0, 0, 0, 0, 0, 0, 0]), .agg (vals .u64 ps)] w' fun e w'' => e = .returned (.agg (vals .u64 qs)) ∧ Below w'.heap.size w' w'') := ⟨fun w' hb' => by
                have := lMul2 [1, 0, 0, 0, 0, 0, 0, 0, 0, 0, 0, 0] OL.out ps (hps ▸ .F2 _) w' (HGG.out _ (hb.trans (hb'.mono (HSS.out _ hb))))
                rwa [← hps, gp_digit p H16.out, ← HE.out, hps, hqs] at this⟩
              clear hps hqs
              go_wp2_with (first
                | (refine wpList_load_row rfl 26 (.tmp 8) rfl g8 rfl _ _ _ _ hP.eq Tryd.underlying26 rfl (by kernel_rfl) ?_)
                | (refine wpList_load_row rfl 26 (.tmp 5) rfl (S + 1 + 1) rfl _ _ _ _ hO.eq Tryd.underlying26 rfl (by kernel_rfl) ?_))
              refine wp_fam 5 (by kernel_rfl) (by kernel_rfl) (fun I hI' fw hf hback => ?_)
              simp only [List.take_succ_cons, List.take_zero, List.drop_succ_cons, List.drop_zero]
              repeat (first
                | (go_big_quiet_want
                   first
                   | refine quiet_load_seg 26 (.tmp 65) (by rfl) g6 (d * 12) 12 (by rfl) 45 .u64 T ps _ (fun w' ⟨i, hi⟩ => by rw [hi]; exact hT.keep (hf i)) Tryd.underlying26 rfl (by kernel_rfl) SEG.out TL.out ?_
                   | refine quiet_load_seg 26 (.tmp 8) (by rfl) g8 0 12 (by rfl) 26 .u64 [1, 0, 0, 0, 0, 0, 0, 0, 0, 0, 0, 0] [1, 0, 0, 0, 0, 0, 0, 0, 0, 0, 0, 0] _ (fun w' ⟨i, hi⟩ => by rw [hi]; exact hP.keep (hf i)) Tryd.underlying26 rfl (by kernel_rfl) (by rw [List.drop_zero, take_all OL.out.len]) (by rw [OL.out.len]; omega) ?_
                   simp only [Act.put, List.setIfInBounds_toArray, List.set_cons_zero, List.set_cons_succ]
                   go_big_quiet_on)
                | go_big_quiet_step (first | fail | (go_at_call 24; with_reducible exact calls_fam hf hback (ML.out _ (hf _)))))
              refine wpQuiet_nil ?_
              intro w3 hq3
              have hP3 := hP.keep hq3
              have hT3 := hT.keep hq3
              have hR3 := hR.keep hq3
              have hO3 := hO.keep hq3
              have hb3 := hb.trans (hq3.mono (HSS.out _ hb))
              clear hf hback hq3 hP hT hR hO hb hC
              go_wp2_with (refine store_abs2 (by rfl) 26 (.tmp 8) (.tmp 67) (by rfl) (by rfl) g8 (vals .u64 qs) (by rfl) (by rfl) 26 (vals .u64 [1, 0, 0, 0, 0, 0, 0, 0, 0, 0, 0, 0]) hP3 (by rw [vals_size, LQ.out]; kernel_rfl) (by rw [vals_size, vals_size, LQ.out, OL.out.len]) vals_one ?_
                           intro w4 hP4 hkeep hbg
                           rw [← HQS.out] at hP4
                           have hT4 := hkeep _ _ _ hT3 (by omega)
                           have hR4 := hkeep _ _ _ hR3 (by omega)
                           have hO4 := hkeep _ _ _ hO3 (by omega)
                           have hb4 := hb3.trans (hbg.mono (by omega))
                           clear hkeep hbg hP3 hT3 hR3 hO3 hb3)
              go_roundg m
              case measure => omega
              case rel => exact ⟨by omega, by have := QK.out; simp only [Value.int.injEq, true_and]; omega, hP4, hT4, hR4, hO4, hb4⟩
          · have OL : Keep (Nm 12 o) := ⟨ho ▸ .F2 _⟩
            have E1 := neq12 OL.out.len (m := [1, 0, 0, 0, 0, 0, 0, 0, 0, 0, 0, 0]) rfl h1
            have HO : Keep _ := ⟨ho⟩
            clear ho h1
            go_wp2_with (first
              | (refine wpList_load_row rfl 26 (.tmp 8) rfl g8 rfl _ _ _ _ hP.eq Tryd.underlying26 rfl (by rw [vals_size, OL.out.len]; kernel_rfl) ?_)
              | (refine wpList_load_row rfl 26 (.tmp 5) rfl (S + 1 + 1) rfl _ _ _ _ hO.eq Tryd.underlying26 rfl (by kernel_rfl) ?_))
            clear E1 OL
            go_loopg [39] 4 (fun (gk3 : Nat) vi wr => ∃ k o, k + gk3 = 4 ∧ vi = .int .i64 (k : Int) ∧ Keep (F2 (gp p (2 ^ k * X)) = o) ∧ Has wr g8 26 (vals .u64 o) ∧ Has wr g6 45 (vals .u64 T) ∧ Has wr (S + 1) 26 (vals .u64 Z12) ∧ Has wr (S + 1 + 1) 26 (vals .u64 [1, 0, 0, 0, 0, 0, 0, 0, 0, 0, 0, 0]) ∧ Below S w wr)
            case atStart => exact ⟨0, _, rfl, rfl, ⟨by rw [Nat.pow_zero, Nat.one_mul]; exact HO.out⟩, hP, hT, hR, hO, hb⟩
            case round =>
              clear hP hT hR hO hb HO
              obtain ⟨k, o, hk, rfl, HO, hP, hT, hR, hO, hb⟩ := hrel
              have OL : Keep (Nm 12 o) := ⟨HO.out ▸ .F2 _⟩
              rcases gk with _ | m3
              · obtain rfl : k = 4 := by omega
                have H16 : Keep (F2 (gp p (16 * X)) = o) := ⟨HO.out⟩
                clear HO hk
                obtain ⟨hD, hrq, hnj, hDn, hz, hd, hz0, hz1, hn', hy0, hy1⟩ := QK.out
                have hC := HC.out _ hb
                have hq1 : (D : Int).tdiv 16 = (j : Int) := by rw [Int.tdiv_eq_ediv_of_nonneg (by omega)]; omega
                have hq2 : (D : Int).tmod 16 = (q : Int) := by rw [Int.tmod_eq_emod_of_nonneg (by omega)]; omega
                have hi1 : (n : Int) - 1 - (j : Int) = (i : Int) := by omega
                have hr1 : (15 : Int) - (q : Int) = (r : Int) := by omega
                have hs1 : (r : Int) * 4 = ((4 * r : Nat) : Int) := by omega
                have hin : i < n := by omega
                have hr16 : r < 16 := by omega
                have hj5 : j < 10000 := by omega
                have hq5 : q < 16 := by omega
                obtain ⟨sh, hsh⟩ : ∃ sh, 4 * r = sh := ⟨_, rfl⟩
                have hs60 : sh ≤ 60 := by omega
                rw [hsh] at hs1 hz
                have hdt : z.tmod 16 = (d : Int) := by rw [Int.tmod_eq_emod_of_nonneg hz0, hd]
                clear hD hrq hnj hDn hsh
                rcases Nat.eq_zero_or_pos d with hd0 | hd0
                · subst hd0
                  have FIN : Keep (o = F2 (gp p (num l / tp (4 * m)).toNat)) := ⟨by rw [HE.out, ← H16.out]; rfl⟩
                  go_wp2_with (fail)
                  go_roundg m
                  case measure => omega
                  case rel => exact ⟨by omega, by have := QK.out; simp only [Value.int.injEq, true_and]; omega, by rw [← FIN.out]; exact hP, hT, hR, hO, hb⟩
                · have hne : (d : Int) ≠ 0 := by omega
                  have hnb : ((d : Int) == 0) = false := by simpa using hne
                  have hnd : decide ((d : Int) = 0) = false := decide_eq_false hne
                  obtain ⟨ps, hps⟩ : ∃ q, F2 (gp p d) = q := ⟨_, rfl⟩
                  obtain ⟨qs, hqs⟩ : ∃ q, F2 (gp p (num l / tp (4 * m)).toNat) = q := ⟨_, rfl⟩
                  have LQ : Keep (qs.length = 12) := ⟨hqs ▸ (Nm.F2 _).len⟩
                  have SEG : Keep (ps = (T.drop (d * 12)).take 12) := ⟨by rw [Nat.mul_comm, HT.out.row d (by omega), hps]⟩
                  have TL : Keep (d * 12 + 12 ≤ T.length) := ⟨by rw [HT.out.len]; omega⟩
                  have HQS : Keep _ := ⟨hqs⟩
                  have ML : Keep (∀ w', Below wr.heap.size wr w' → Calls Tryd.prog 24 #[.agg (vals .u64 o), .agg (vals .u64 ps)] w' fun e w'' => e = .returned (.agg (vals .u64 qs)) ∧ Below w'.heap.size w' w'') := ⟨fun w' hb' => by
                    have := lMul2 o OL.out ps (hps ▸ .F2 _) w' (HGG.out _ (hb.trans (hb'.mono (HSS.out _ hb))))
                    rwa [← hps, gp_digit p H16.out, ← HE.out, hps, hqs] at this⟩
                  clear hps hqs
                  go_wp2_with (fail)
                  refine wp_fam 5 (by kernel_rfl) (by kernel_rfl) (fun I hI' fw hf hback => ?_)
                  simp only [List.take_succ_cons, List.take_zero, List.drop_succ_cons, List.drop_zero]
                  repeat (first
                    | (go_big_quiet_want
                       first
                       | refine quiet_load_seg 26 (.tmp 65) (by rfl) g6 (d * 12) 12 (by rfl) 45 .u64 T ps _ (fun w' ⟨i, hi⟩ => by rw [hi]; exact hT.keep (hf i)) Tryd.underlying26 rfl (by kernel_rfl) SEG.out TL.out ?_
                       | refine quiet_load_seg 26 (.tmp 8) (by rfl) g8 0 12 (by rfl) 26 .u64 o o _ (fun w' ⟨i, hi⟩ => by rw [hi]; exact hP.keep (hf i)) Tryd.underlying26 rfl (by kernel_rfl) (by rw [List.drop_zero, take_all OL.out.len]) (by rw [OL.out.len]; omega) ?_
                       simp only [Act.put, List.setIfInBounds_toArray, List.set_cons_zero, List.set_cons_succ]
                       go_big_quiet_on)
                    | go_big_quiet_step (first | fail | (go_at_call 24; with_reducible exact calls_fam hf hback (ML.out _ (hf _)))))
                  refine wpQuiet_nil ?_
                  intro w3 hq3
                  have hP3 := hP.keep hq3
                  have hT3 := hT.keep hq3
                  have hR3 := hR.keep hq3
                  have hO3 := hO.keep hq3
                  have hb3 := hb.trans (hq3.mono (HSS.out _ hb))
                  clear hf hback hq3 hP hT hR hO hb hC
                  go_wp2_with (refine store_abs2 (by rfl) 26 (.tmp 8) (.tmp 67) (by rfl) (by rfl) g8 (vals .u64 qs) (by rfl) (by rfl) 26 (vals .u64 o) hP3 (by rw [vals_size, LQ.out]; kernel_rfl) (by rw [vals_size, vals_size, LQ.out, OL.out.len]) vals_one ?_
                               intro w4 hP4 hkeep hbg
                               rw [← HQS.out] at hP4
                               have hT4 := hkeep _ _ _ hT3 (by omega)
                               have hR4 := hkeep _ _ _ hR3 (by omega)
                               have hO4 := hkeep _ _ _ hO3 (by omega)
                               have hb4 := hb3.trans (hbg.mono (by omega))
                               clear hkeep hbg hP3 hT3 hR3 hO3 hb3)
                  go_roundg m
                  case measure => omega
                  case rel => exact ⟨by omega, by have := QK.out; simp only [Value.int.injEq, true_and]; omega, hP4, hT4, hR4, hO4, hb4⟩
              · obtain ⟨o2, ho2⟩ : ∃ o2, F2 (gm (v2 o) (v2 o)) = o2 := ⟨_, rfl⟩
                have hk4 : k < 4 := by omega
                have OL2 : Keep (o2.length = 12 ∧ F2 (gp p (2 ^ (k + 1) * X)) = o2) := ⟨ho2 ▸ (Nm.F2 _).len, by
                  rw [← ho2, ← HO.out, Nat.pow_succ, Nat.mul_comm _ 2, Nat.mul_assoc]
                  exact (F2_eq (gp_dbl p _)).symm⟩
                have ML : Keep (∀ w', Below S w w' → Calls Tryd.prog 43 #[.agg (vals .u64 o)] w' fun e w'' => e = .returned (.agg (vals .u64 o2)) ∧ Below w'.heap.size w' w'') := ⟨fun w' hb' => by
                  have := lSquare2 o OL.out w' (HGG.out _ hb')
                  rwa [ho2] at this⟩
                clear ho2
                go_wp2_with (first
                  | (refine wpList_load_row rfl 26 (.tmp 8) rfl g8 rfl _ _ _ _ hP.eq Tryd.underlying26 rfl (by rw [vals_size, OL.out.len]; kernel_rfl) ?_)
                  | (refine store_abs2 (by rfl) 26 (.tmp 8) (.tmp 42) (by rfl) (by rfl) g8 (vals .u64 o2) (by rfl) (by rfl) 26 (vals .u64 o) hP1 (by rw [vals_size, OL2.out.1]; kernel_rfl) (by rw [vals_size, vals_size, OL2.out.1, OL.out.len]) vals_one ?_
                     intro w2 hP2 hkeep hbg
                     have hT2 := hkeep _ _ _ hT1 (by omega)
                     have hR2 := hkeep _ _ _ hR1 (by omega)
                     have hO2 := hkeep _ _ _ hO1 (by omega)
                     have hb2 := hb1.trans (hbg.mono (by omega))
                     clear hkeep hbg hP1 hT1 hR1 hO1 hb1)
                  | (go_at_call 43
                     refine (ML.out _ hb).mono ?_
                     rintro e w1 ⟨rfl, hq⟩
                     have hP1 := hP.keep hq
                     have hT1 := hT.keep hq
                     have hR1 := hR.keep hq
                     have hO1 := hO.keep hq
                     have hb1 := hb.trans (hq.mono (HSS.out _ hb))
                     clear hq hP hT hR hO hb))
                go_roundg m3
                case measure => omega
                case rel => exact ⟨k + 1, o2, by omega, by go_num, ⟨OL2.out.2⟩, hP2, hT2, hR2, hO2, hb2⟩
    · have hi15 : i < 15 := by omega
      obtain ⟨ps, hps⟩ : ∃ q, F2 (gp p i) = q := ⟨_, rfl⟩
      obtain ⟨qs, hqs⟩ : ∃ q, F2 (gp p (i + 1)) = q := ⟨_, rfl⟩
      have LQ : Keep (qs.length = 12) := ⟨hqs ▸ (Nm.F2 _).len⟩
      have SEG : Keep (ps = (T.drop (i * 12)).take 12) := ⟨by rw [Nat.mul_comm, HT.out.row i (by omega), hps]⟩
      have TL : Keep (i * 12 + 12 ≤ T.length ∧ (i + 1) * 12 + qs.length ≤ T.length) := ⟨by rw [HT.out.len, LQ.out]; omega⟩
      have HT' : Keep (Rows2 p (i + 1 + 1) (T.take ((i + 1) * 12) ++ (qs ++ T.drop ((i + 1) * 12 + qs.length)))) := ⟨by rw [Nat.mul_comm (i + 1) 12]; exact HT.out.more (by omega) hqs⟩
      have ML : Keep (∀ w', Below wr.heap.size wr w' → Calls Tryd.prog 24 #[.agg (vals .u64 ps), .agg (vals .u64 a)] w' fun e w'' => e = .returned (.agg (vals .u64 qs)) ∧ Below w'.heap.size w' w'') := ⟨fun w' hb' => by
        have := lMul2 ps (hps ▸ .F2 _) a LA.out w' (HGG.out _ (hb.trans (hb'.mono (HSS.out _ hb))))
        rwa [← hps, ← HX.out, mul_0, HX.out, hqs, hps] at this⟩
      clear hps hqs
      go_wp2
      refine wp_fam 8 (by kernel_rfl) (by kernel_rfl) (fun I hI' fw hf hback => ?_)
      simp only [List.take_succ_cons, List.take_zero, List.drop_succ_cons, List.drop_zero]
      repeat (first
        | (go_big_quiet_want
           first
           | refine quiet_load_seg 26 (.tmp 23) (by rfl) g6 (i * 12) 12 (by rfl) 45 .u64 T ps _ (fun w' ⟨i, hi⟩ => by rw [hi]; exact hT.keep (hf i)) Tryd.underlying26 rfl (by kernel_rfl) SEG.out TL.out.1 ?_
           | refine quiet_load_seg 26 (.tmp 2) (by rfl) S 0 12 (by rfl) 26 .u64 a a _ (fun w' ⟨i, hi⟩ => by rw [hi]; exact hA.keep (hf i)) Tryd.underlying26 rfl (by kernel_rfl) (by rw [List.drop_zero, take_all LA.out.len]) (by rw [LA.out.len]; omega) ?_
           simp only [Act.put, List.setIfInBounds_toArray, List.set_cons_zero, List.set_cons_succ]
           go_big_quiet_on)
        | go_big_quiet_step (first | fail | (go_at_call 24; with_reducible exact calls_fam hf hback (ML.out _ (hf _)))))
      refine wpQuiet_nil ?_
      intro w3 hq
      have hT3 := hT.keep hq
      have hA3 := hA.keep hq
      have hR3 := hR.keep hq
      have hO3 := hO.keep hq
      have hb3 := hb.trans (hq.mono (HSS.out _ hb))
      clear hf hback hq hT hA hR hO hb
      refine store_seg (by rfl) 26 (.tmp 27) (.tmp 26) (by rfl) (by rfl) g6 ((i + 1) * 12) .u64 qs (by rfl) (by rfl) 45 T hT3 (by rw [LQ.out]; kernel_rfl) TL.out.2 _ rfl ?_
      intro w4 hT4 hon
      have hA4 := hon.has hA3 (by omega)
      have hR4 := hon.has hR3 (by omega)
      have hO4 := hon.has hO3 (by omega)
      have hb4 := hb3.trans (hon.below (B := S) (by omega) (HSS.out _ hb3))
      clear hT3 hA3 hR3 hO3 hb3 hon
      go_wp2
      go_roundg m
      case measure => omega
      case rel => exact ⟨i + 1, _, by omega, by go_num, HT', hT4, hA4, hR4, hO4, hb4⟩

end Go.Proofs.YtdldebceailgdaaDoor.Fp2
