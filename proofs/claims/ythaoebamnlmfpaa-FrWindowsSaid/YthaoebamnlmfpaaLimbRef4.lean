/-
  Own text. The contract of layer 3's reference: Mod.
-/
import Derived.Test.YthaoebamnlmfpaaLimbRef3
namespace Go.Proofs.Ythaoebamnlmfpaa.Limb
open Go Go.RowKit Go.Proofs.Ythaoebamnlmfpaa.Reg Go.Proofs.Ythaoebamnlmfpaa.Base

theorem wd_take {n m : Nat} (h : m ≤ n) (v : Int) : (wd n v).take m = wd m v := by
  refine ext_nth (by rw [List.length_take, wd_len, wd_len]; omega) fun i hi => ?_
  rw [List.length_take, wd_len] at hi
  rw [nth_take (by omega), wd_nth v (by omega), wd_nth v (by omega)]
theorem wd_pos {n : Nat} (hn : 0 < n) (v : Int) : nth (wd n v) 0 = v % 18446744073709551616 := by rw [wd_nth v hn, wp_zero, Int.ediv_one]
/-- A bit is put below a number's double. -/
theorem wd_bit {n : Nat} (hn : 0 < n) {v β : Int} (hb : β = 0 ∨ β = 1) (h0 : 0 ≤ v) (h1 : 2 * v + β < wp n) : (wd n (2 * v)).set 0 (nth (wd n (2 * v)) 0 + β) = wd n (2 * v + β) := by
  have hz := wd_pos hn (2 * v)
  have hw : Words ((wd n (2 * v)).set 0 (nth (wd n (2 * v)) 0 + β)) := words_set (wd_words _ _) (by rw [hz]; omega) (by rw [hz]; omega)
  refine num_inj hw (wd_words _ _) (by rw [List.length_set, wd_len, wd_len]) ?_
  rw [num_set _ (by rw [wd_len]; exact hn), num_wd_of (by omega) (by omega), num_wd_of (by omega) h1, wp_zero]
  omega
theorem mod_step (q m β : Int) : (2 * (q % m) + β) % m = (2 * q + β) % m := by
  rw [Int.add_emod, Int.mul_emod, Int.emod_emod, ← Int.mul_emod, ← Int.add_emod]
theorem mod_less {u m : Int} (h0 : 0 ≤ u) (h1 : u < m) : u = u % m := (Int.emod_eq_of_lt h0 h1).symm
theorem mod_minus {u m : Int} (h0 : m ≤ u) (h1 : u < 2 * m) : u - m = u % m := by
  have := Int.sub_emod_right u m
  rw [← this, Int.emod_eq_of_lt (by omega) (by omega)]

set_option maxRecDepth 100000 in
set_option maxHeartbeats 2000000 in
theorem refMod_no (a1 : Value) (A' : Option Addr) (n' c' : Nat) (m : List Int) (B : Nat) (w : World) (hr' : Rd w B A' n' .u64 m) (hwm : Words m) (hn' : n' ≤ 10000) (hm : num m = 0) :
    Calls Try.prog 61 #[a1, .slice A' n' c'] w fun e w' => e = .returned (.tuple #[.slice none 0 0, .int .i64 30]) ∧ w = w' := by
  have HC : Keep (cmpL m [] = 0) := ⟨by unfold cmpL; rw [num_nil, if_neg (by omega), if_pos hm]⟩
  have WM : Keep _ := ⟨hwm⟩
  clear hwm hm
  go_enter Try.func61, Try.ntmps61
  go_wp2_with (go_at_call 45; refine (refCmp_c A' n' c' m none 0 0 [] B _ hr' WM.out Rd.nil_ words_nil (by omega) (by omega)).mono ?_; rintro e w' ⟨rfl, rfl⟩; rw [HC.out])
  go_ret2
  exact ⟨rfl, rfl⟩

set_option maxRecDepth 100000 in
set_option maxHeartbeats 4000000 in
theorem refMod_c (A : Option Addr) (n c : Nat) (a : List Int) (A' : Option Addr) (n' c' : Nat) (m : List Int) (B : Nat) (w : World) (hr : Rd w B A n .u64 a) (hwa : Words a) (hr' : Rd w B A' n' .u64 m) (hwm : Words m) (hB : B ≤ w.heap.size) (hn : n ≤ 10000) (hn' : n' ≤ 10000) (hm : num m ≠ 0) :
    Calls Try.prog 61 #[.slice A n c, .slice A' n' c'] w fun e w' => ∃ A'' c'', e = .returned (.tuple #[.slice A'' n' c'', .int .i64 0]) ∧ Own w' w.heap.size 23 .u64 A'' n' c'' (wd n' (num a % num m)) ∧ Below w.heap.size w w' := by
  have LN : Keep _ := ⟨hr.len⟩
  have LN' : Keep _ := ⟨hr'.len⟩
  have WA : Keep _ := ⟨hwa⟩
  have WM : Keep _ := ⟨hwm⟩
  obtain ⟨M, hM⟩ : ∃ M, num m = M := ⟨_, rfl⟩
  have hM0 : 0 < M ∧ M < wp n' := by have := num_bounds hwm; rw [hr'.len] at this; omega
  have HM0 : Keep _ := ⟨hM0⟩
  have HMM : Keep _ := ⟨hM⟩
  have HC : Keep (cmpL m [] = 1) := ⟨by unfold cmpL; rw [num_nil, if_neg (by omega), if_neg (by omega)]⟩
  obtain ⟨L, hL⟩ : ∃ L, n' + 1 = L := ⟨_, rfl⟩
  have hLi : (n' : Int) + 1 = (L : Int) := by omega
  have hLb : L ≤ 10001 ∧ 0 < L := by omega
  have HL : Keep _ := ⟨hL⟩
  have hmk : ∀ w, (Instr.makeSlice 39 (.int .i64 L) (.int .i64 L)).run Try.prog w = .ok (.slice (some ⟨w.heap.size, 0, none⟩) L L) (w.alloc (.cells (vals .u64 (List.replicate L 0)) 23)) := fun w => run_make_vals w _ _ .u64 Try.underlying39 u64Elem .i64 .i64 L (by omega) (by omega)
  rw [hM]
  have HB0 : Keep (List.replicate L 0 = wd L ((num a / tp (64 * n)) % M)) := ⟨by
    have hb := num_bounds hwa
    rw [hr.len] at hb
    rw [tp_wp, Int.ediv_eq_zero_of_lt hb.1 hb.2, Int.zero_emod]
    have h0 := wd_num (n := L) (words_zeros L) (by simp)
    rw [num_zeros] at h0
    exact h0.symm⟩
  clear hwa hwm hM hM0 hL hm
  have hb0 : Below w.heap.size w (w.alloc (.cells (vals .u64 (List.replicate L 0)) 23)) := (Below.refl _ _).alloc (Nat.le_refl _) _
  have ho0 : Own (w.alloc (.cells (vals .u64 (List.replicate L 0)) 23)) w.heap.size 23 .u64 (some ⟨w.heap.size, 0, none⟩) L L (List.replicate L 0) := by
    have := Own.of_has (Has.new w 23 (vals .u64 (List.replicate L 0))) (Nat.le_refl _) (by simp [maxLen]; omega)
    simpa using this
  go_enter Try.func61, Try.ntmps61
  go_wp2_with (go_at_call 45; refine (refCmp_c A' n' c' m none 0 0 [] B _ hr' WM.out Rd.nil_ words_nil (by omega) (by omega)).mono ?_; rintro e w' ⟨rfl, rfl⟩; rw [HC.out])
  go_loopw [6, 7] (fun vo vi wr => ∃ (k : Nat) (Ao : Option Addr) (co : Nat), k ≤ 64 * n ∧ vi = .int .i64 ((k : Int) - 1) ∧ vo = .slice Ao L co ∧ Own wr w.heap.size 23 .u64 Ao L co (wd L ((num a / tp k) % M)) ∧ Below w.heap.size w wr) (fun _ vi _ => (intOf vi + 1).toNat)
  case atStart => exact ⟨64 * n, some ⟨w.heap.size, 0, none⟩, L, Nat.le_refl _, by go_num, rfl, by rw [← HB0.out]; exact ho0, hb0⟩
  case round =>
    clear ho0 hb0 hmk
    obtain ⟨k, Ao, co, hk, rfl, rfl, ho, hb⟩ := hrel
    rcases k with _ | i
    · rw [tp_zero, Int.ediv_one] at ho
      have hcut := ho.cut (m := n') (by omega)
      rw [wd_take (by omega)] at hcut
      have hcap := ho.le_cap
      go_wp2
      go_ret2
      exact ⟨Ao, co, rfl, hcut, hb⟩
    · have e1 : ((i + 1 : Nat) : Int) - 1 = (i : Int) := by omega
      rw [e1]
      clear e1
      obtain ⟨b1, o1, rfl, hlb1, hc1⟩ := hr.at_ (by omega)
      obtain ⟨y, hy⟩ : ∃ y, nth a (i / 64) = y := ⟨_, rfl⟩
      have by' : 0 ≤ y ∧ y ≤ 18446744073709551615 := hy ▸ WA.out (i / 64)
      have HC1 : Keep (∀ w1, Below w.heap.size w w1 → w1.cell? ⟨b1, o1 + i / 64, none⟩ = some (.int .u64 y)) := ⟨fun w1 hb1 => (hb1.cell (p := ⟨b1, o1 + i / 64, none⟩) (by show b1 < _; omega)).trans (by rw [hc1 _ (by omega), hy])⟩
      have hyb : bitL a i = y / 2 ^ (i % 64) % 2 := by rw [bitL, hy]; rfl
      have hsb := shr_bounds by'.1 by'.2 (i % 64)
      obtain ⟨β, hβ⟩ : ∃ β, y / 2 ^ (i % 64) % 2 = β := ⟨_, rfl⟩
      have hbits : bits .and .u64 (y / 2 ^ (i % 64)) 1 = β := by rw [and_one hsb.1 hsb.2, hβ]
      have hβ01 : β = 0 ∨ β = 1 := by omega
      obtain ⟨v, hv⟩ : ∃ v, (num a / tp (i + 1)) % M = v := ⟨_, rfl⟩
      have hv0 : 0 ≤ v ∧ v < M := by rw [← hv]; exact ⟨Int.emod_nonneg _ (by have := HM0.out; omega), Int.emod_lt_of_pos _ HM0.out.1⟩
      have hu : (2 * v + β) % M = (num a / tp i) % M := by rw [← hv, mod_step, num_shift (num a) i, num_bit WA.out, hyb, hβ]
      have hwL : wp L = wp n' * 18446744073709551616 := by rw [← HL.out, wp_succ]
      have hub : 2 * v + β < wp L := by have := HM0.out; omega
      obtain ⟨z, hz⟩ : ∃ z, nth (wd L (2 * v)) 0 = z := ⟨_, rfl⟩
      have hze : z = 2 * v % 18446744073709551616 := by rw [← hz, wd_pos hLb.2]
      have hwr : IntKind.u64.wrap (z + β) = z + β := by rw [IntKind.wrap_u64]; omega
      have HSET : Keep ((wd L (2 * v)).set 0 (z + β) = wd L (2 * v + β)) := ⟨by rw [← hz]; exact wd_bit hLb.2 hβ01 hv0.1 hub⟩
      have HZ : Keep _ := ⟨hz⟩
      have HUM : Keep (num (wd L (2 * v + β)) = 2 * v + β) := ⟨num_wd_of (by omega) hub⟩
      have HU : Keep _ := ⟨hu⟩
      have HV : Keep _ := ⟨hv⟩
      have HV0 : Keep _ := ⟨hv0⟩
      have HB1 : Keep _ := ⟨hβ01⟩
      have HTW : Keep (wd L (2 * num (wd L v)) = wd L (2 * v)) := ⟨wd_twice L v⟩
      rw [hv] at ho
      clear hyb hsb hβ hβ01 hv hv0 hu hub hwL hze hz hy hc1 by'
      go_wp2_with (go_at_call 71
                   refine (refTwice_c Ao L co _ wr.heap.size _ ho.rd (wd_words _ _) (Nat.le_refl _) (by omega)).mono ?_
                   rintro e w1 ⟨A1, c1, rfl, ho1, hb1⟩
                   rw [HTW.out] at ho1
                   have hbb1 := hb.trans (hb1.mono hb.size)
                   clear ho hb1)
      have ho1' : Own w1 w.heap.size 23 .u64 A1 L c1 (wd L (2 * v)) := ⟨World.ownsRow.mono ho1.own hb.size⟩
      clear ho1
      obtain ⟨g1, rfl, hg1, hlt1, hnc1, hcs1, hfz1⟩ := ho1'.at_ hLb.2
      refine wp_fam 16 (by kernel_rfl) (by kernel_rfl) (fun I hI' fw hf hback => ?_)
      simp only [List.take_succ_cons, List.take_zero, List.drop_succ_cons, List.drop_zero]
      have q0 : ∀ j, (fw j).cell? ⟨g1, 0, none⟩ = some (.int .u64 z) := fun j => ((hf j).cell (p := ⟨g1, 0, none⟩) hlt1).trans (by rw [hcs1 0 hLb.2, HZ.out])
      have q1 : ∀ j, (fw j).cell? ⟨b1, o1 + i / 64, none⟩ = some (.int .u64 y) := fun j => HC1.out _ (hbb1.trans ((hf j).mono hbb1.size))
      repeat (go_big_quiet_step (fail))
      refine wpQuiet_nil ?_
      intro w2 hb2
      clear q0 q1 hf hback hcs1 hfz1
      have hbb2 := hbb1.trans (hb2.mono hbb1.size)
      have ho2 := ho1'.keep hb2
      clear hb2 hbb1 ho1'
      obtain ⟨g1', hA, _, hlt2, _, hcs2, hfz2⟩ := ho2.at_ hLb.2
      obtain rfl : g1 = g1' := by injection hA with hA; injection hA
      have hcell := hcs2 0 hLb.2
      have hfr := hfz2 0
      have ho3 := ho2.set_ hLb.2 (z + β)
      rw [HSET.out] at ho3
      have hb3 := hbb2.setCell (p := ⟨g1, 0, none⟩) hg1 (.int .u64 (z + β))
      clear hcs2 hfz2 ho2 hbb2 hA
      generalize hu : 2 * v + β = u at *
      have HML : Keep (max L n' = L) := ⟨by omega⟩
      have hu0 : 0 ≤ u ∧ u < 2 * M := by have := HV0.out; have := HB1.out; omega
      rcases Int.lt_trichotomy u M with h1 | h1 | h1
      · have HCM : Keep (cmpL (wd L u) m = -1) := ⟨by unfold cmpL; rw [HUM.out, HMM.out, if_pos h1]⟩
        have HF : Keep (u = (num a / tp i) % M) := ⟨(mod_less hu0.1 h1).trans HU.out⟩
        rw [HF.out] at ho3
        have HCM' : Keep (cmpL (wd L ((num a / tp i) % M)) m = -1) := ⟨by rw [← HF.out]; exact HCM.out⟩
        clear hu hu0 h1
        go_wp2_with (go_at_call 45
                     refine (refCmp_c (some ⟨g1, 0, none⟩) L c1 _ A' n' c' m (w2.setCell ⟨g1, 0, none⟩ (.int .u64 (z + β))).heap.size _ ho3.rd (wd_words _ _) ((hr'.keep hb3 hB).more (Nat.le_trans hB hb3.size)) WM.out (by omega) (by omega)).mono ?_
                     rintro e w' ⟨rfl, rfl⟩
                     rw [HCM'.out])
        first
          | exact ⟨⟨i, some ⟨g1, 0, none⟩, c1, by omega, rfl, rfl, ho3, hb3⟩, by simp [intOf]⟩
          | (go_roundw
             case rel => exact ⟨i, some ⟨g1, 0, none⟩, c1, by omega, rfl, rfl, ho3, hb3⟩
             case measure => simp [intOf])
      · have HCM : Keep (cmpL (wd L u) m = 0) := ⟨by unfold cmpL; rw [HUM.out, HMM.out, if_neg (by omega), if_pos h1]⟩
        have HF : Keep (u - M = (num a / tp i) % M) := ⟨(mod_minus (by omega) hu0.2).trans HU.out⟩
        have HSB : Keep (subL (wd L u) m = wd L ((num a / tp i) % M)) := ⟨by rw [subL, wd_len, LN'.out, HML.out, HUM.out, HMM.out, HF.out]⟩
        clear hu hu0 h1
        go_wp2_with (first
          | (go_at_call 40
             refine (refSub_c (some ⟨g1, 0, none⟩) L c1 _ A' n' c' m (w2.setCell ⟨g1, 0, none⟩ (.int .u64 (z + β))).heap.size _ ho3.rd (wd_words _ _) ((hr'.keep hb3 hB).more (Nat.le_trans hB hb3.size)) WM.out (Nat.le_refl _) (by omega) (by omega)).mono ?_
             rintro e w4 ⟨A4, c4, rfl, ho4, hb4⟩
             rw [HSB.out, HML.out] at ho4
             rw [HML.out]
             have ho4' : Own w4 w.heap.size 23 .u64 A4 L c4 _ := ⟨World.ownsRow.mono ho4.own hb3.size⟩
             have hb4' := hb3.trans (hb4.mono hb3.size)
             clear hb4 ho4)
          | (go_at_call 45
             refine (refCmp_c (some ⟨g1, 0, none⟩) L c1 _ A' n' c' m (w2.setCell ⟨g1, 0, none⟩ (.int .u64 (z + β))).heap.size _ ho3.rd (wd_words _ _) ((hr'.keep hb3 hB).more (Nat.le_trans hB hb3.size)) WM.out (by omega) (by omega)).mono ?_
             rintro e w' ⟨rfl, rfl⟩
             rw [HCM.out]))
        first
          | exact ⟨⟨i, A4, c4, by omega, rfl, rfl, ho4', hb4'⟩, by simp [intOf]⟩
          | (go_roundw
             case rel => exact ⟨i, A4, c4, by omega, rfl, rfl, ho4', hb4'⟩
             case measure => simp [intOf])
      · have HCM : Keep (cmpL (wd L u) m = 1) := ⟨by unfold cmpL; rw [HUM.out, HMM.out, if_neg (by omega), if_neg (by omega)]⟩
        have HF : Keep (u - M = (num a / tp i) % M) := ⟨(mod_minus (by omega) hu0.2).trans HU.out⟩
        have HSB : Keep (subL (wd L u) m = wd L ((num a / tp i) % M)) := ⟨by rw [subL, wd_len, LN'.out, HML.out, HUM.out, HMM.out, HF.out]⟩
        clear hu hu0 h1
        go_wp2_with (first
          | (go_at_call 40
             refine (refSub_c (some ⟨g1, 0, none⟩) L c1 _ A' n' c' m (w2.setCell ⟨g1, 0, none⟩ (.int .u64 (z + β))).heap.size _ ho3.rd (wd_words _ _) ((hr'.keep hb3 hB).more (Nat.le_trans hB hb3.size)) WM.out (Nat.le_refl _) (by omega) (by omega)).mono ?_
             rintro e w4 ⟨A4, c4, rfl, ho4, hb4⟩
             rw [HSB.out, HML.out] at ho4
             rw [HML.out]
             have ho4' : Own w4 w.heap.size 23 .u64 A4 L c4 _ := ⟨World.ownsRow.mono ho4.own hb3.size⟩
             have hb4' := hb3.trans (hb4.mono hb3.size)
             clear hb4 ho4)
          | (go_at_call 45
             refine (refCmp_c (some ⟨g1, 0, none⟩) L c1 _ A' n' c' m (w2.setCell ⟨g1, 0, none⟩ (.int .u64 (z + β))).heap.size _ ho3.rd (wd_words _ _) ((hr'.keep hb3 hB).more (Nat.le_trans hB hb3.size)) WM.out (by omega) (by omega)).mono ?_
             rintro e w' ⟨rfl, rfl⟩
             rw [HCM.out]))
        first
          | exact ⟨⟨i, A4, c4, by omega, rfl, rfl, ho4', hb4'⟩, by simp [intOf]⟩
          | (go_roundw
             case rel => exact ⟨i, A4, c4, by omega, rfl, rfl, ho4', hb4'⟩
             case measure => simp [intOf])
end Go.Proofs.Ythaoebamnlmfpaa.Limb
