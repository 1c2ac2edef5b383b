/-
  Own text. The walk of layer 3's statement that numbers that are given stay as they were.
-/
import Derived.Test.YtnjkmheecmhlcaaLimbAwake
namespace Go.Proofs.Ytnjkmheecmhlcaa.Limb
open Go Go.RowKit Go.Proofs.Ytnjkmheecmhlcaa.Reg Go.Proofs.Ytnjkmheecmhlcaa.Base

/-- A slice whose cells may be written, in blocks from 'base' on. -/
structure Mut (w : World) (base : Nat) (A : Option Addr) (n : Nat) (k : IntKind) : Prop where
  at_ : 0 < n → ∃ b off, A = some ⟨b, off, none⟩ ∧ base ≤ b ∧ ∀ j, j < n → (∃ x, w.cell? ⟨b, off + j, none⟩ = some (.int k x)) ∧ w.frozen? ⟨b, off + j, none⟩ = false
theorem frozen_block {w w' : World} {a : Addr} (h : w'.heap[a.block]? = w.heap[a.block]?) : w'.frozen? a = w.frozen? a := by simp [World.frozen?, h]
theorem Mut.of_frs {w w' : World} {base base' n : Nat} {A : Option Addr} {k : IntKind} {xs : List Int} (h : Frs w base A n k xs) (hb : Below w.heap.size w w') (hB : base' ≤ base) : Mut w' base' A n k := ⟨fun hn => by
  obtain ⟨b, off, hA, hg, hlt, hc, hf⟩ := h.at_ hn
  exact ⟨b, off, hA, Nat.le_trans hB hg, fun j hj => ⟨⟨_, (hb.cell (p := ⟨b, off + j, none⟩) hlt).trans (hc j hj)⟩, (frozen_block (hb.block b hlt)).trans (hf j hj)⟩⟩⟩
theorem Mut.set_ {w : World} {base n : Nat} {A : Option Addr} {k : IntKind} (h : Mut w base A n k) {p : Addr} {y : Int} (hp : ∃ x, w.cell? p = some (.int k x)) : Mut (w.setCell p (.int k y)) base A n k := ⟨fun hn => by
  obtain ⟨b, off, hA, hg, hr⟩ := h.at_ hn
  refine ⟨b, off, hA, hg, fun j hj => ⟨?_, by rw [World.frozen?_setCell]; exact (hr j hj).2⟩⟩
  by_cases e : p = ⟨b, off + j, none⟩
  · subst e
    obtain ⟨x, hx⟩ := hp
    exact ⟨y, World.cell?_setCell_same' w _ _ (by rw [hx]; rfl)⟩
  · obtain ⟨x, hx⟩ := (hr j hj).1
    exact ⟨x, (World.cell?_setCell_other w _ _ _ e).trans hx⟩⟩
theorem Mut.none {w : World} {base : Nat} {A : Option Addr} {k : IntKind} : Mut w base A 0 k := ⟨fun h => absurd h (by omega)⟩

set_option maxRecDepth 100000 in
set_option maxHeartbeats 4000000 in
theorem own_no (A : Option Addr) (n c : Nat) (a : List Int) (A' : Option Addr) (n' c' : Nat) (b : List Int) (w : World) (hr : Rd w w.heap.size A n .u64 a) (hwa : Words a) (hr' : Rd w w.heap.size A' n' .u64 b) (hwb : Words b) (hn : n ≤ 14 ∧ n' ≤ 14) (hm : num b = 0) : Calls Try.prog 9 #[.slice A n c, .slice A' n' c'] w fun e w' => e = .returned (.bool true) ∧ Below w.heap.size w w' := by
  have HD : Keep _ := ⟨(decide_eq_true hn : decide (n ≤ 14 ∧ n' ≤ 14) = true)⟩
  have HN : Keep (n ≤ 14 ∧ n' ≤ 14) := ⟨hn⟩
  have WA : Keep _ := ⟨hwa⟩
  have WB : Keep _ := ⟨hwb⟩
  have HZ : Keep _ := ⟨hm⟩
  obtain ⟨mx, hmx⟩ : ∃ m, max n n' = m := ⟨_, rfl⟩
  obtain ⟨sm, hsm⟩ : ∃ m, n + n' = m := ⟨_, rfl⟩
  have HMX : Keep _ := ⟨hmx⟩
  have HSM : Keep _ := ⟨hsm⟩
  have hbds : mx ≤ 14 ∧ sm ≤ 28 := by omega
  have hn2 : n' ≤ 14 := hn.2
  have hb0 : Below w.heap.size w w := Below.refl _ _
  clear hn hwa hwb hm hmx hsm
  go_enter Try.func9, Try.ntmps9
  go_wp2_with (first
    | (have q1 := f7; go_at_call 16
       refine (mod_no A3 n c3 a A4 n' c4 b _ _ (hx3.here k3_7) WA.out (hx4.here k4_7) WB.out (Nat.le_refl _) (by have := HN.out; omega) (by have := HN.out; omega) hcp4.out HZ.out).mono ?_
       rintro e w8 ⟨A8, c8, rfl, hb⟩
       have hb8 := hb7.trans (hb.mono hb7.size)
       have k3_8 := k3_7.trans (hb.mono k3_7.size)
       have k4_8 := k4_7.trans (hb.mono k4_7.size)
       have k5_8 := k5_7.trans (hb.mono k5_7.size)
       have k6_8 := k6_7.trans (hb.mono k6_7.size)
       have k7_8 := hb
       clear hb k3_7 k4_7 k5_7 k6_7 hb7 q1 f7
       have f8 := True.intro)
    | (have q1 := f6; go_at_call 19
       refine (mul_c A3 n c3 a A4 n' c4 b _ _ (hx3.here k3_6) WA.out (hx4.here k4_6) WB.out (Nat.le_refl _) (by have := HN.out; omega) (by have := HN.out; omega)).mono ?_
       rintro e w7 ⟨A7, c7, rfl, hx7, hb⟩
       rw [HSM.out] at hx7
       rw [HSM.out]
       have hb7 := hb6.trans (hb.mono hb6.size)
       have k3_7 := k3_6.trans (hb.mono k3_6.size)
       have k4_7 := k4_6.trans (hb.mono k4_6.size)
       have k5_7 := k5_6.trans (hb.mono k5_6.size)
       have k6_7 := hb
       clear hb k3_6 k4_6 k5_6 hb6 q1 f6
       have HK7 := k4_7.size
       have f7 := True.intro)
    | (have q1 := f5; go_at_call 14
       refine (sub_c A3 n c3 a A4 n' c4 b _ _ (hx3.here k3_5) WA.out (hx4.here k4_5) WB.out (Nat.le_refl _) (by have := HN.out; omega) (by have := HN.out; omega)).mono ?_
       rintro e w6 ⟨A6, c6, rfl, hx6, hb⟩
       rw [HMX.out] at hx6
       rw [HMX.out]
       have hb6 := hb5.trans (hb.mono hb5.size)
       have k3_6 := k3_5.trans (hb.mono k3_5.size)
       have k4_6 := k4_5.trans (hb.mono k4_5.size)
       have k5_6 := hb
       clear hb k3_5 k4_5 hb5 q1 f5
       have HK6 := k4_6.size
       have f6 := True.intro)
    | (have q1 := f4; go_at_call 12
       refine (add_c A3 n c3 a A4 n' c4 b _ _ (hx3.here k3_4) WA.out hx4.rd WB.out (Nat.le_refl _) (by have := HN.out; omega) (by have := HN.out; omega)).mono ?_
       rintro e w5 ⟨A5, c5, rfl, hx5, hb⟩
       rw [HMX.out] at hx5
       rw [HMX.out]
       have hb5 := hb4.trans (hb.mono hb4.size)
       have k3_5 := k3_4.trans (hb.mono k3_4.size)
       have k4_5 := hb
       clear hb k3_4 hb4 q1 f4
       have HK5 := k4_5.size
       have f5 := True.intro)
    | (have q1 := f3; refine append_abs (by rfl) (.tmp 30) (.tmp 31) 23 (by rfl) w3.heap.size 25 .u64 8 Try.underlying23 u64Elem (some ⟨w3.heap.size, 0, none⟩) 0 0 [] (by rfl) (Own.of_has (Has.new w3 25 (vals .u64 [])) (Nat.le_refl _) (Nat.zero_le _)) w3.heap.size A' n' c' b (by rfl) ((rd_here hr' hb3).keep ((Below.refl w3.heap.size w3).alloc (Nat.le_refl _) _) (Nat.le_refl _)) n' (Nat.zero_add _) b (by rfl) (by have := HN.out; omega) (by unfold maxLen; have := HN.out; omega) (by simp) ?_
       intro A4 c4 w4 hoo hbx
       have hb := ((Below.refl w3.heap.size w3).alloc (Nat.le_refl _) (.cells (vals .u64 []) 25)).trans hbx
       have hx4 := Frs.of_own hoo
       have hcp4 : Keep (n' ≤ c4) := ⟨hoo.le_cap⟩
       clear hoo hbx
       have hb4 := hb3.trans (hb.mono hb3.size)
       have k3_4 := hb
       clear hb hb3 q1 f3
       have HBW := hb4
       have HK3 := k3_4
       have f4 := True.intro)
    | (have q1 := f2; refine append_abs (by rfl) (.tmp 27) (.tmp 28) 23 (by rfl) w2.heap.size 25 .u64 8 Try.underlying23 u64Elem (some ⟨w2.heap.size, 0, none⟩) 0 0 [] (by rfl) (Own.of_has (Has.new w2 25 (vals .u64 [])) (Nat.le_refl _) (Nat.zero_le _)) w2.heap.size A n c a (by rfl) ((rd_here hr hb2).keep ((Below.refl w2.heap.size w2).alloc (Nat.le_refl _) _) (Nat.le_refl _)) n (Nat.zero_add _) a (by rfl) (by have := HN.out; omega) (by unfold maxLen; have := HN.out; omega) (by simp) ?_
       intro A3 c3 w3 hoo hbx
       have hb := ((Below.refl w2.heap.size w2).alloc (Nat.le_refl _) (.cells (vals .u64 []) 25)).trans hbx
       have hx3 := Frs.of_own hoo
       clear hoo hbx
       have hb3 := hb2.trans (hb.mono hb2.size)
       clear hb hb2 q1 f2
       have f3 := True.intro)
    | (have q1 := f1; go_at_call 11
       refine (few_c A n c A' n' c' _).mono ?_
       rintro e w2 ⟨rfl, hb⟩
       rw [HD.out]
       have hb2 := hb1.trans (hb.mono hb1.size)
       clear hb hb1 q1 f1
       have f2 := True.intro)
    | (go_at_call 10
       refine (awake_c _).mono ?_
       rintro e w1 ⟨rfl, hb⟩
       have hb1 := hb0.trans (hb.mono hb0.size)
       clear hb hb0
       have f1 := True.intro))
  have hB : Below w4.heap.size w4 w8 := k4_8
  have hbW : Keep (Below w.heap.size w w4) := ⟨HBW⟩
  have K3 : Keep (Below w3.heap.size w3 w4) := ⟨HK3⟩
  have M1 : Mut w8 w4.heap.size A5 mx .u64 := Mut.of_frs hx5 k5_8 (Nat.le_refl _)
  have M2 : Mut w8 w4.heap.size A6 mx .u64 := Mut.of_frs hx6 k6_8 HK5
  have M3 : Mut w8 w4.heap.size A7 sm .u64 := Mut.of_frs hx7 k7_8 HK6
  have M4 : Mut w8 w4.heap.size A8 0 .u64 := Mut.none
  clear hx5 hx6 hx7 k3_8 k4_8 k5_8 k6_8 k7_8 hb8 f8 HBW HK3 HK5 HK6 HK7
  go_loopw [15] (fun vi wr => ∃ j : Nat, j ≤ mx ∧ vi = .int .i64 j ∧ Below w4.heap.size w4 wr ∧ Mut wr w4.heap.size A5 mx .u64 ∧ Mut wr w4.heap.size A6 mx .u64 ∧ Mut wr w4.heap.size A7 sm .u64 ∧ Mut wr w4.heap.size A8 0 .u64) (fun vi _ => mx - (intOf vi).toNat)
  case atStart => exact ⟨0, Nat.zero_le _, rfl, hB, M1, M2, M3, M4⟩
  case round =>
    clear hB M1 M2 M3 M4
    obtain ⟨j, hj, rfl, hB, M1, M2, M3, M4⟩ := hrel
    by_cases hlt : j < mx
    · obtain ⟨b1, o1, hA1, hg1, hc1⟩ := M1.at_ (by omega)
      obtain ⟨⟨x1, hx1⟩, hf1⟩ := hc1 j hlt
      subst hA1
      have N1 := M1.set_ (y := 7) ⟨x1, hx1⟩
      have N2 := M2.set_ (y := 7) ⟨x1, hx1⟩
      have N3 := M3.set_ (y := 7) ⟨x1, hx1⟩
      have N4 := M4.set_ (y := 7) ⟨x1, hx1⟩
      have hB' := hB.setCell (p := ⟨b1, o1 + j, none⟩) hg1 (.int .u64 7)
      clear hc1 M1 M2 M3 M4
      go_wp2
      first
        | exact ⟨⟨j + 1, by omega, by go_num, hB', N1, N2, N3, N4⟩, by simp [intOf]; omega⟩
        | (go_roundw
           case rel => exact ⟨j + 1, by omega, by go_num, hB', N1, N2, N3, N4⟩
           case measure => simp [intOf]; omega)
    · obtain rfl : mx = j := by omega
      go_wp2
      go_loopw [16] (fun vi wr => ∃ j : Nat, j ≤ mx ∧ vi = .int .i64 j ∧ Below w4.heap.size w4 wr ∧ Mut wr w4.heap.size A5 mx .u64 ∧ Mut wr w4.heap.size A6 mx .u64 ∧ Mut wr w4.heap.size A7 sm .u64 ∧ Mut wr w4.heap.size A8 0 .u64) (fun vi _ => mx - (intOf vi).toNat)
      case atStart => exact ⟨0, Nat.zero_le _, rfl, hB, M1, M2, M3, M4⟩
      case round =>
        clear hB M1 M2 M3 M4
        obtain ⟨j, hj, rfl, hB, M1, M2, M3, M4⟩ := hrel
        by_cases hlt : j < mx
        · obtain ⟨b1, o1, hA1, hg1, hc1⟩ := M2.at_ (by omega)
          obtain ⟨⟨x1, hx1⟩, hf1⟩ := hc1 j hlt
          subst hA1
          have N1 := M1.set_ (y := 7) ⟨x1, hx1⟩
          have N2 := M2.set_ (y := 7) ⟨x1, hx1⟩
          have N3 := M3.set_ (y := 7) ⟨x1, hx1⟩
          have N4 := M4.set_ (y := 7) ⟨x1, hx1⟩
          have hB' := hB.setCell (p := ⟨b1, o1 + j, none⟩) hg1 (.int .u64 7)
          clear hc1 M1 M2 M3 M4
          go_wp2
          first
            | exact ⟨⟨j + 1, by omega, by go_num, hB', N1, N2, N3, N4⟩, by simp [intOf]; omega⟩
            | (go_roundw
               case rel => exact ⟨j + 1, by omega, by go_num, hB', N1, N2, N3, N4⟩
               case measure => simp [intOf]; omega)
        · obtain rfl : mx = j := by omega
          go_wp2
          go_loopw [17] (fun vi wr => ∃ j : Nat, j ≤ sm ∧ vi = .int .i64 j ∧ Below w4.heap.size w4 wr ∧ Mut wr w4.heap.size A5 mx .u64 ∧ Mut wr w4.heap.size A6 mx .u64 ∧ Mut wr w4.heap.size A7 sm .u64 ∧ Mut wr w4.heap.size A8 0 .u64) (fun vi _ => sm - (intOf vi).toNat)
          case atStart => exact ⟨0, Nat.zero_le _, rfl, hB, M1, M2, M3, M4⟩
          case round =>
            clear hB M1 M2 M3 M4
            obtain ⟨j, hj, rfl, hB, M1, M2, M3, M4⟩ := hrel
            by_cases hlt : j < sm
            · obtain ⟨b1, o1, hA1, hg1, hc1⟩ := M3.at_ (by omega)
              obtain ⟨⟨x1, hx1⟩, hf1⟩ := hc1 j hlt
              subst hA1
              have N1 := M1.set_ (y := 7) ⟨x1, hx1⟩
              have N2 := M2.set_ (y := 7) ⟨x1, hx1⟩
              have N3 := M3.set_ (y := 7) ⟨x1, hx1⟩
              have N4 := M4.set_ (y := 7) ⟨x1, hx1⟩
              have hB' := hB.setCell (p := ⟨b1, o1 + j, none⟩) hg1 (.int .u64 7)
              clear hc1 M1 M2 M3 M4
              go_wp2
              first
                | exact ⟨⟨j + 1, by omega, by go_num, hB', N1, N2, N3, N4⟩, by simp [intOf]; omega⟩
                | (go_roundw
                   case rel => exact ⟨j + 1, by omega, by go_num, hB', N1, N2, N3, N4⟩
                   case measure => simp [intOf]; omega)
            · obtain rfl : sm = j := by omega
              go_wp2
              go_loopw [18] (fun vi wr => ∃ j : Nat, j ≤ 0 ∧ vi = .int .i64 j ∧ Below w4.heap.size w4 wr ∧ Mut wr w4.heap.size A5 mx .u64 ∧ Mut wr w4.heap.size A6 mx .u64 ∧ Mut wr w4.heap.size A7 sm .u64 ∧ Mut wr w4.heap.size A8 0 .u64) (fun vi _ => 0 - (intOf vi).toNat)
              case atStart => exact ⟨0, Nat.zero_le _, rfl, hB, M1, M2, M3, M4⟩
              case round =>
                clear hB M1 M2 M3 M4
                obtain ⟨j, hj, rfl, hB, M1, M2, M3, M4⟩ := hrel
                by_cases hlt : j < 0
                · exact absurd hlt (Nat.not_lt_zero _)
                · obtain rfl : 0 = j := by omega
                  have hx' := (hx3.here K3.out).keep hB (Nat.le_refl _)
                  have hy' := (hx4.rd.more (Nat.le_refl _)).keep hB (Nat.le_refl _)
                  have hbb := hbW.out.trans (hB.mono hbW.out.size)
                  have hra := rd_here hr hbb
                  have hrb := rd_here hr' hbb
                  have hszB := hB.size
                  clear M1 M2 M3 M4
                  go_wp2_with (first
                    | (have q1 := z1; go_at_call 18
                       refine (same64_c A4 A' n' c4 n' c' b b _ _ _ (hy'.keep hz1 hszB) (Nat.le_trans hszB hz1.size) (rd_here hrb hz1) (Nat.le_refl _) (by have := HN.out; omega) (by have := HN.out; omega)).mono ?_
                       rintro e wz2 ⟨rfl, hz2⟩
                       rw [decide_eq_true (rfl : b = b)]
                       have hzz := hbb.trans ((hz1.trans (hz2.mono hz1.size)).mono hbb.size)
                       clear q1 z1)
                    | (go_at_call 18
                       refine (same64_c A3 A n c3 n c a a _ _ _ hx' hszB hra (Nat.le_refl _) (by have := HN.out; omega) (by have := HN.out; omega)).mono ?_
                       rintro e wz1 ⟨rfl, hz1⟩
                       rw [decide_eq_true (rfl : a = a)]
                       have z1 := True.intro))
                  go_ret
                  exact ⟨rfl, hzz⟩
  

set_option maxRecDepth 100000 in
set_option maxHeartbeats 4000000 in
theorem own_ok (A : Option Addr) (n c : Nat) (a : List Int) (A' : Option Addr) (n' c' : Nat) (b : List Int) (w : World) (hr : Rd w w.heap.size A n .u64 a) (hwa : Words a) (hr' : Rd w w.heap.size A' n' .u64 b) (hwb : Words b) (hn : n ≤ 14 ∧ n' ≤ 14) (hm : num b ≠ 0) : Calls Try.prog 9 #[.slice A n c, .slice A' n' c'] w fun e w' => e = .returned (.bool true) ∧ Below w.heap.size w w' := by
  have HD : Keep _ := ⟨(decide_eq_true hn : decide (n ≤ 14 ∧ n' ≤ 14) = true)⟩
  have HN : Keep (n ≤ 14 ∧ n' ≤ 14) := ⟨hn⟩
  have WA : Keep _ := ⟨hwa⟩
  have WB : Keep _ := ⟨hwb⟩
  have HZ : Keep _ := ⟨hm⟩
  obtain ⟨mx, hmx⟩ : ∃ m, max n n' = m := ⟨_, rfl⟩
  obtain ⟨sm, hsm⟩ : ∃ m, n + n' = m := ⟨_, rfl⟩
  have HMX : Keep _ := ⟨hmx⟩
  have HSM : Keep _ := ⟨hsm⟩
  have hbds : mx ≤ 14 ∧ sm ≤ 28 := by omega
  have hn2 : n' ≤ 14 := hn.2
  have hb0 : Below w.heap.size w w := Below.refl _ _
  clear hn hwa hwb hm hmx hsm
  go_enter Try.func9, Try.ntmps9
  go_wp2_with (first
    | (have q1 := f7; go_at_call 16
       refine (mod_c A3 n c3 a A4 n' c4 b _ _ (hx3.here k3_7) WA.out (hx4.here k4_7) WB.out (Nat.le_refl _) (by have := HN.out; omega) (by have := HN.out; omega) hcp4.out HZ.out).mono ?_
       rintro e w8 ⟨A8, c8, rfl, hx8, hb⟩
       have hb8 := hb7.trans (hb.mono hb7.size)
       have k3_8 := k3_7.trans (hb.mono k3_7.size)
       have k4_8 := k4_7.trans (hb.mono k4_7.size)
       have k5_8 := k5_7.trans (hb.mono k5_7.size)
       have k6_8 := k6_7.trans (hb.mono k6_7.size)
       have k7_8 := hb
       clear hb k3_7 k4_7 k5_7 k6_7 hb7 q1 f7
       have f8 := True.intro)
    | (have q1 := f6; go_at_call 19
       refine (mul_c A3 n c3 a A4 n' c4 b _ _ (hx3.here k3_6) WA.out (hx4.here k4_6) WB.out (Nat.le_refl _) (by have := HN.out; omega) (by have := HN.out; omega)).mono ?_
       rintro e w7 ⟨A7, c7, rfl, hx7, hb⟩
       rw [HSM.out] at hx7
       rw [HSM.out]
       have hb7 := hb6.trans (hb.mono hb6.size)
       have k3_7 := k3_6.trans (hb.mono k3_6.size)
       have k4_7 := k4_6.trans (hb.mono k4_6.size)
       have k5_7 := k5_6.trans (hb.mono k5_6.size)
       have k6_7 := hb
       clear hb k3_6 k4_6 k5_6 hb6 q1 f6
       have HK7 := k4_7.size
       have f7 := True.intro)
    | (have q1 := f5; go_at_call 14
       refine (sub_c A3 n c3 a A4 n' c4 b _ _ (hx3.here k3_5) WA.out (hx4.here k4_5) WB.out (Nat.le_refl _) (by have := HN.out; omega) (by have := HN.out; omega)).mono ?_
       rintro e w6 ⟨A6, c6, rfl, hx6, hb⟩
       rw [HMX.out] at hx6
       rw [HMX.out]
       have hb6 := hb5.trans (hb.mono hb5.size)
       have k3_6 := k3_5.trans (hb.mono k3_5.size)
       have k4_6 := k4_5.trans (hb.mono k4_5.size)
       have k5_6 := hb
       clear hb k3_5 k4_5 hb5 q1 f5
       have HK6 := k4_6.size
       have f6 := True.intro)
    | (have q1 := f4; go_at_call 12
       refine (add_c A3 n c3 a A4 n' c4 b _ _ (hx3.here k3_4) WA.out hx4.rd WB.out (Nat.le_refl _) (by have := HN.out; omega) (by have := HN.out; omega)).mono ?_
       rintro e w5 ⟨A5, c5, rfl, hx5, hb⟩
       rw [HMX.out] at hx5
       rw [HMX.out]
       have hb5 := hb4.trans (hb.mono hb4.size)
       have k3_5 := k3_4.trans (hb.mono k3_4.size)
       have k4_5 := hb
       clear hb k3_4 hb4 q1 f4
       have HK5 := k4_5.size
       have f5 := True.intro)
    | (have q1 := f3; refine append_abs (by rfl) (.tmp 30) (.tmp 31) 23 (by rfl) w3.heap.size 25 .u64 8 Try.underlying23 u64Elem (some ⟨w3.heap.size, 0, none⟩) 0 0 [] (by rfl) (Own.of_has (Has.new w3 25 (vals .u64 [])) (Nat.le_refl _) (Nat.zero_le _)) w3.heap.size A' n' c' b (by rfl) ((rd_here hr' hb3).keep ((Below.refl w3.heap.size w3).alloc (Nat.le_refl _) _) (Nat.le_refl _)) n' (Nat.zero_add _) b (by rfl) (by have := HN.out; omega) (by unfold maxLen; have := HN.out; omega) (by simp) ?_
       intro A4 c4 w4 hoo hbx
       have hb := ((Below.refl w3.heap.size w3).alloc (Nat.le_refl _) (.cells (vals .u64 []) 25)).trans hbx
       have hx4 := Frs.of_own hoo
       have hcp4 : Keep (n' ≤ c4) := ⟨hoo.le_cap⟩
       clear hoo hbx
       have hb4 := hb3.trans (hb.mono hb3.size)
       have k3_4 := hb
       clear hb hb3 q1 f3
       have HBW := hb4
       have HK3 := k3_4
       have f4 := True.intro)
    | (have q1 := f2; refine append_abs (by rfl) (.tmp 27) (.tmp 28) 23 (by rfl) w2.heap.size 25 .u64 8 Try.underlying23 u64Elem (some ⟨w2.heap.size, 0, none⟩) 0 0 [] (by rfl) (Own.of_has (Has.new w2 25 (vals .u64 [])) (Nat.le_refl _) (Nat.zero_le _)) w2.heap.size A n c a (by rfl) ((rd_here hr hb2).keep ((Below.refl w2.heap.size w2).alloc (Nat.le_refl _) _) (Nat.le_refl _)) n (Nat.zero_add _) a (by rfl) (by have := HN.out; omega) (by unfold maxLen; have := HN.out; omega) (by simp) ?_
       intro A3 c3 w3 hoo hbx
       have hb := ((Below.refl w2.heap.size w2).alloc (Nat.le_refl _) (.cells (vals .u64 []) 25)).trans hbx
       have hx3 := Frs.of_own hoo
       clear hoo hbx
       have hb3 := hb2.trans (hb.mono hb2.size)
       clear hb hb2 q1 f2
       have f3 := True.intro)
    | (have q1 := f1; go_at_call 11
       refine (few_c A n c A' n' c' _).mono ?_
       rintro e w2 ⟨rfl, hb⟩
       rw [HD.out]
       have hb2 := hb1.trans (hb.mono hb1.size)
       clear hb hb1 q1 f1
       have f2 := True.intro)
    | (go_at_call 10
       refine (awake_c _).mono ?_
       rintro e w1 ⟨rfl, hb⟩
       have hb1 := hb0.trans (hb.mono hb0.size)
       clear hb hb0
       have f1 := True.intro))
  have hB : Below w4.heap.size w4 w8 := k4_8
  have hbW : Keep (Below w.heap.size w w4) := ⟨HBW⟩
  have K3 : Keep (Below w3.heap.size w3 w4) := ⟨HK3⟩
  have M1 : Mut w8 w4.heap.size A5 mx .u64 := Mut.of_frs hx5 k5_8 (Nat.le_refl _)
  have M2 : Mut w8 w4.heap.size A6 mx .u64 := Mut.of_frs hx6 k6_8 HK5
  have M3 : Mut w8 w4.heap.size A7 sm .u64 := Mut.of_frs hx7 k7_8 HK6
  have M4 : Mut w8 w4.heap.size A8 n' .u64 := Mut.of_frs hx8 (Below.refl _ _) HK7
  clear hx5 hx6 hx7 k3_8 k4_8 k5_8 k6_8 k7_8 hb8 f8 HBW HK3 HK5 HK6 HK7
  go_loopw [15] (fun vi wr => ∃ j : Nat, j ≤ mx ∧ vi = .int .i64 j ∧ Below w4.heap.size w4 wr ∧ Mut wr w4.heap.size A5 mx .u64 ∧ Mut wr w4.heap.size A6 mx .u64 ∧ Mut wr w4.heap.size A7 sm .u64 ∧ Mut wr w4.heap.size A8 n' .u64) (fun vi _ => mx - (intOf vi).toNat)
  case atStart => exact ⟨0, Nat.zero_le _, rfl, hB, M1, M2, M3, M4⟩
  case round =>
    clear hB M1 M2 M3 M4
    obtain ⟨j, hj, rfl, hB, M1, M2, M3, M4⟩ := hrel
    by_cases hlt : j < mx
    · obtain ⟨b1, o1, hA1, hg1, hc1⟩ := M1.at_ (by omega)
      obtain ⟨⟨x1, hx1⟩, hf1⟩ := hc1 j hlt
      subst hA1
      have N1 := M1.set_ (y := 7) ⟨x1, hx1⟩
      have N2 := M2.set_ (y := 7) ⟨x1, hx1⟩
      have N3 := M3.set_ (y := 7) ⟨x1, hx1⟩
      have N4 := M4.set_ (y := 7) ⟨x1, hx1⟩
      have hB' := hB.setCell (p := ⟨b1, o1 + j, none⟩) hg1 (.int .u64 7)
      clear hc1 M1 M2 M3 M4
      go_wp2
      first
        | exact ⟨⟨j + 1, by omega, by go_num, hB', N1, N2, N3, N4⟩, by simp [intOf]; omega⟩
        | (go_roundw
           case rel => exact ⟨j + 1, by omega, by go_num, hB', N1, N2, N3, N4⟩
           case measure => simp [intOf]; omega)
    · obtain rfl : mx = j := by omega
      go_wp2
      go_loopw [16] (fun vi wr => ∃ j : Nat, j ≤ mx ∧ vi = .int .i64 j ∧ Below w4.heap.size w4 wr ∧ Mut wr w4.heap.size A5 mx .u64 ∧ Mut wr w4.heap.size A6 mx .u64 ∧ Mut wr w4.heap.size A7 sm .u64 ∧ Mut wr w4.heap.size A8 n' .u64) (fun vi _ => mx - (intOf vi).toNat)
      case atStart => exact ⟨0, Nat.zero_le _, rfl, hB, M1, M2, M3, M4⟩
      case round =>
        clear hB M1 M2 M3 M4
        obtain ⟨j, hj, rfl, hB, M1, M2, M3, M4⟩ := hrel
        by_cases hlt : j < mx
        · obtain ⟨b1, o1, hA1, hg1, hc1⟩ := M2.at_ (by omega)
          obtain ⟨⟨x1, hx1⟩, hf1⟩ := hc1 j hlt
          subst hA1
          have N1 := M1.set_ (y := 7) ⟨x1, hx1⟩
          have N2 := M2.set_ (y := 7) ⟨x1, hx1⟩
          have N3 := M3.set_ (y := 7) ⟨x1, hx1⟩
          have N4 := M4.set_ (y := 7) ⟨x1, hx1⟩
          have hB' := hB.setCell (p := ⟨b1, o1 + j, none⟩) hg1 (.int .u64 7)
          clear hc1 M1 M2 M3 M4
          go_wp2
          first
            | exact ⟨⟨j + 1, by omega, by go_num, hB', N1, N2, N3, N4⟩, by simp [intOf]; omega⟩
            | (go_roundw
               case rel => exact ⟨j + 1, by omega, by go_num, hB', N1, N2, N3, N4⟩
               case measure => simp [intOf]; omega)
        · obtain rfl : mx = j := by omega
          go_wp2
          go_loopw [17] (fun vi wr => ∃ j : Nat, j ≤ sm ∧ vi = .int .i64 j ∧ Below w4.heap.size w4 wr ∧ Mut wr w4.heap.size A5 mx .u64 ∧ Mut wr w4.heap.size A6 mx .u64 ∧ Mut wr w4.heap.size A7 sm .u64 ∧ Mut wr w4.heap.size A8 n' .u64) (fun vi _ => sm - (intOf vi).toNat)
          case atStart => exact ⟨0, Nat.zero_le _, rfl, hB, M1, M2, M3, M4⟩
          case round =>
            clear hB M1 M2 M3 M4
            obtain ⟨j, hj, rfl, hB, M1, M2, M3, M4⟩ := hrel
            by_cases hlt : j < sm
            · obtain ⟨b1, o1, hA1, hg1, hc1⟩ := M3.at_ (by omega)
              obtain ⟨⟨x1, hx1⟩, hf1⟩ := hc1 j hlt
              subst hA1
              have N1 := M1.set_ (y := 7) ⟨x1, hx1⟩
              have N2 := M2.set_ (y := 7) ⟨x1, hx1⟩
              have N3 := M3.set_ (y := 7) ⟨x1, hx1⟩
              have N4 := M4.set_ (y := 7) ⟨x1, hx1⟩
              have hB' := hB.setCell (p := ⟨b1, o1 + j, none⟩) hg1 (.int .u64 7)
              clear hc1 M1 M2 M3 M4
              go_wp2
              first
                | exact ⟨⟨j + 1, by omega, by go_num, hB', N1, N2, N3, N4⟩, by simp [intOf]; omega⟩
                | (go_roundw
                   case rel => exact ⟨j + 1, by omega, by go_num, hB', N1, N2, N3, N4⟩
                   case measure => simp [intOf]; omega)
            · obtain rfl : sm = j := by omega
              go_wp2
              go_loopw [18] (fun vi wr => ∃ j : Nat, j ≤ n' ∧ vi = .int .i64 j ∧ Below w4.heap.size w4 wr ∧ Mut wr w4.heap.size A5 mx .u64 ∧ Mut wr w4.heap.size A6 mx .u64 ∧ Mut wr w4.heap.size A7 sm .u64 ∧ Mut wr w4.heap.size A8 n' .u64) (fun vi _ => n' - (intOf vi).toNat)
              case atStart => exact ⟨0, Nat.zero_le _, rfl, hB, M1, M2, M3, M4⟩
              case round =>
                clear hB M1 M2 M3 M4
                obtain ⟨j, hj, rfl, hB, M1, M2, M3, M4⟩ := hrel
                by_cases hlt : j < n'
                · obtain ⟨b1, o1, hA1, hg1, hc1⟩ := M4.at_ (by omega)
                  obtain ⟨⟨x1, hx1⟩, hf1⟩ := hc1 j hlt
                  subst hA1
                  have N1 := M1.set_ (y := 7) ⟨x1, hx1⟩
                  have N2 := M2.set_ (y := 7) ⟨x1, hx1⟩
                  have N3 := M3.set_ (y := 7) ⟨x1, hx1⟩
                  have N4 := M4.set_ (y := 7) ⟨x1, hx1⟩
                  have hB' := hB.setCell (p := ⟨b1, o1 + j, none⟩) hg1 (.int .u64 7)
                  clear hc1 M1 M2 M3 M4
                  go_wp2
                  first
                    | exact ⟨⟨j + 1, by omega, by go_num, hB', N1, N2, N3, N4⟩, by simp [intOf]; omega⟩
                    | (go_roundw
                       case rel => exact ⟨j + 1, by omega, by go_num, hB', N1, N2, N3, N4⟩
                       case measure => simp [intOf]; omega)
                · obtain rfl : n' = j := by omega
                  have hx' := (hx3.here K3.out).keep hB (Nat.le_refl _)
                  have hy' := (hx4.rd.more (Nat.le_refl _)).keep hB (Nat.le_refl _)
                  have hbb := hbW.out.trans (hB.mono hbW.out.size)
                  have hra := rd_here hr hbb
                  have hrb := rd_here hr' hbb
                  have hszB := hB.size
                  clear M1 M2 M3 M4
                  go_wp2_with (first
                    | (have q1 := z1; go_at_call 18
                       refine (same64_c A4 A' n' c4 n' c' b b _ _ _ (hy'.keep hz1 hszB) (Nat.le_trans hszB hz1.size) (rd_here hrb hz1) (Nat.le_refl _) (by have := HN.out; omega) (by have := HN.out; omega)).mono ?_
                       rintro e wz2 ⟨rfl, hz2⟩
                       rw [decide_eq_true (rfl : b = b)]
                       have hzz := hbb.trans ((hz1.trans (hz2.mono hz1.size)).mono hbb.size)
                       clear q1 z1)
                    | (go_at_call 18
                       refine (same64_c A3 A n c3 n c a a _ _ _ hx' hszB hra (Nat.le_refl _) (by have := HN.out; omega) (by have := HN.out; omega)).mono ?_
                       rintro e wz1 ⟨rfl, hz1⟩
                       rw [decide_eq_true (rfl : a = a)]
                       have z1 := True.intro))
                  go_ret
                  exact ⟨rfl, hzz⟩
  

set_option maxRecDepth 100000 in
set_option maxHeartbeats 600000 in
theorem own_big (A : Option Addr) (n c : Nat) (A' : Option Addr) (n' c' : Nat) (w : World) (hn : ¬ (n ≤ 14 ∧ n' ≤ 14)) : Calls Try.prog 9 #[.slice A n c, .slice A' n' c'] w fun e w' => e = .returned (.bool true) ∧ Below w.heap.size w w' := by
  have HD : Keep _ := ⟨(decide_eq_false hn : decide (n ≤ 14 ∧ n' ≤ 14) = false)⟩
  clear hn
  go_enter Try.func9, Try.ntmps9
  go_wp2_with (first
    | (go_at_call 10; refine (awake_c _).mono ?_; rintro e w1 ⟨rfl, hb1⟩)
    | (go_at_call 11; refine (few_c A n c A' n' c' w1).mono ?_; rintro e w2 ⟨rfl, hb2⟩; rw [HD.out]; have hbb2 := hb1.trans (hb2.mono hb1.size)))
  go_ret
  exact ⟨rfl, hbb2⟩

theorem own_w {w : World} {A : Option Addr} {n : Nat} (c : Nat) {a : List Int} {A' : Option Addr} {n' : Nat} (c' : Nat) {b : List Int} (h : Rd w w.heap.size A n .u64 a ∧ Words a) (h' : Rd w w.heap.size A' n' .u64 b ∧ Words b) :
    Calls Try.prog 9 #[.slice A n c, .slice A' n' c'] w fun e w' => e = .returned (.bool true) ∧ Below w.heap.size w w' := by
  by_cases hn : n ≤ 14 ∧ n' ≤ 14
  · by_cases hm : num b = 0
    · exact own_no A n c a A' n' c' b w h.1 h.2 h'.1 h'.2 hn hm
    · exact own_ok A n c a A' n' c' b w h.1 h.2 h'.1 h'.2 hn hm
  · exact own_big A n c A' n' c' w hn
end Go.Proofs.Ytnjkmheecmhlcaa.Limb
