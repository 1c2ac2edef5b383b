/-
  Own text. The walk of the statement that each thirty-two bytes made of a key are the keyed sum of those ahead.
-/
import Derived.Test.YtkjbfkhiijnemaaHkAwake
import Derived.Test.YtkjbfkhiijnemaaMemC
import Derived.OpenShut
namespace Go.Proofs.Ytkjbfkhiijnemaa.Hk
open Go Go.RowKit Go.Proofs.Ytkjbfkhiijnemaa.Reg Go.Proofs.Ytkjbfkhiijnemaa.Sha

theorem rowL_seg (key info : List Int) {i n : Nat} (h : i < n) : ((rowL key info n).drop (32 * i)).take 32 = chainL key info (i + 1) := by
  obtain ⟨d, rfl⟩ : ∃ d, n = i + 1 + d := ⟨n - (i + 1), by omega⟩
  have h1 := rowL_take key info (i + 1) d
  rw [rowL] at h1
  have h2 : ((rowL key info (i + 1 + d)).drop (32 * i)).take 32 = ((rowL key info (i + 1 + d)).take (32 * (i + 1))).drop (32 * i) := by
    rw [List.drop_take, show 32 * (i + 1) - 32 * i = 32 by omega]
  rw [h2, h1]
  have := rowL_len key info i
  rw [← this, List.drop_left]
theorem expandL_whole (key info : List Int) (n : Nat) : expandL key info (32 * n) = rowL key info n := by
  rw [expandL, show roundsOf (32 * n) = n by unfold roundsOf; omega, List.take_of_length_le (by rw [rowL_len]; exact Nat.le_refl _)]
theorem Rd.sub {w : World} {B b off n : Nat} {k : IntKind} {xs : List Int} (h : Rd w B (some ⟨b, off, none⟩) n k xs) {lo m : Nat} (hm : lo + m ≤ n) {ys : List Int} (hy : (xs.drop lo).take m = ys) : Rd w B (some ⟨b, off + lo, none⟩) m k ys := by
  subst hy
  have hl := h.len
  refine ⟨by simp; omega, fun h0 => ?_⟩
  obtain ⟨b', off', e, hb, hc⟩ := h.at_ (by omega)
  injection e with e
  injection e with e1 e2
  subst e1 e2
  refine ⟨b, off + lo, rfl, hb, fun j hj => ?_⟩
  rw [Nat.add_assoc, hc (lo + j) (by omega)]
  simp [nth, List.getElem?_take_of_lt hj]

set_option maxRecDepth 100000 in
set_option maxHeartbeats 600000 in
theorem chains_big (A : Option Addr) (n c : Nat) (A' : Option Addr) (n' c' : Nat) (m : Int) (w : World) (hn : ¬ (n ≤ 500 ∧ n' ≤ 500)) : Calls Try.prog 7 #[.slice A n c, .slice A' n' c', .int .i64 m] w fun e w' => e = .returned (.bool true) ∧ Below w.heap.size w w' := by
  have hd : decide (n ≤ 500 ∧ n' ≤ 500) = false := decide_eq_false hn
  have HD : Keep _ := ⟨hd⟩
  clear hd hn
  go_enter Try.func7, Try.ntmps7
  go_wp2_with (first
    | (go_at_call 8; refine (awake_c _).mono ?_; rintro e w1 ⟨rfl, hb1⟩)
    | (go_at_call 9; refine (few_c A n c A' n' c' w1).mono ?_; rintro e w2 ⟨rfl, hb2⟩; rw [HD.out]; have hbb2 := hb1.trans (hb2.mono hb1.size)))
  go_ret
  exact ⟨rfl, hbb2⟩

set_option maxRecDepth 100000 in
set_option maxHeartbeats 2000000 in
theorem chains_pos (A : Option Addr) (n c : Nat) (key : List Int) (A' : Option Addr) (n' c' : Nat) (b : List Int) (m : Int) (w : World) (hr : Rd w w.heap.size A n .u8 key) (hby : Bytes key) (hr' : Rd w w.heap.size A' n' .u8 b) (hby' : Bytes b) (hn : n ≤ 500 ∧ n' ≤ 500) (hm : 0 ≤ m) :
    Calls Try.prog 7 #[.slice A n c, .slice A' n' c', .int .i64 m] w fun e w' => e = .returned (.bool true) ∧ Below w.heap.size w w' := by
  have hd : decide (n ≤ 500 ∧ n' ≤ 500) = true := decide_eq_true hn
  have HD : Keep _ := ⟨hd⟩
  have HN : Keep (n ≤ 1000 ∧ n' ≤ 1000 ∧ n ≤ 500 ∧ n' ≤ 500) := ⟨by omega⟩
  have LN : Keep _ := ⟨hr.len⟩
  have LN' : Keep _ := ⟨hr'.len⟩
  have BY : Keep _ := ⟨hby⟩
  have BY' : Keep _ := ⟨hby'⟩
  obtain ⟨z, hz⟩ : ∃ z : Nat, m % 20 = z := ⟨(m % 20).toNat, by have := Int.emod_nonneg m (b := 20) (by omega); omega⟩
  have hz20 : z < 20 := by have := Int.emod_lt_of_pos m (b := 20) (by omega); omega
  have ht : m.tmod 20 = z := by rw [Int.tmod_eq_emod_of_nonneg (by omega)]; exact hz
  obtain ⟨xs, hxs⟩ : ∃ xs, expandL key b (32 * z) = xs := ⟨_, rfl⟩
  have HX : Keep _ := ⟨hxs⟩
  have HR : Keep (xs = rowL key b z) := ⟨by rw [← hxs, expandL_whole]⟩
  clear hd hn hby hby' hxs hz
  go_enter Try.func7, Try.ntmps7
  go_wp2_with (first
    | (go_at_call 8; refine (awake_c _).mono ?_; rintro e w1 ⟨rfl, hb1⟩)
    | (go_at_call 9; refine (few_c A n c A' n' c' w1).mono ?_; rintro e w2 ⟨rfl, hb2⟩; rw [HD.out]; have hbb2 := hb1.trans (hb2.mono hb1.size); have hr2 := hr.keep hbb2 (Nat.le_refl _); have hs2 := hr'.keep hbb2 (Nat.le_refl _); clear hb1 hb2)
    | (go_at_call 10
       refine (expand_c A n c key A' n' c' b (32 * z) w.heap.size w2 hr2 BY.out hs2 BY'.out hbb2.size HN.out.1 HN.out.2.1 (by omega)).mono ?_
       rintro e w3 ⟨A3, c3, rfl, hx3, hc3, hb3⟩
       rw [HX.out] at hx3
       have hr3 := hr2.keep hb3 hbb2.size
       have hs3 := hs2.keep hb3 hbb2.size
       have hbb3 := hbb2.trans (hb3.mono hbb2.size)
       clear hbb2 hb3 hr2 hs2 hr hr'))
  go_loopw [10] (fun i wr => ∃ j : Nat, j ≤ z ∧ i = .int .i64 j ∧ Below w3.heap.size w3 wr) (fun i _ => z - (intOf i).toNat)
  case atStart => exact ⟨0, Nat.zero_le _, rfl, Below.refl _ _⟩
  case round =>
    obtain ⟨j, hj, rfl, hb⟩ := hrel
    by_cases hlt : j < z
    · obtain ⟨b3, o3, rfl, hlb3, _⟩ := hx3.at_ (by omega)
      have hx4 := hx3.keep hb (Nat.le_refl _)
      have hr4 := hr3.keep hb hbb3.size
      have hs4 := hs3.keep hb hbb3.size
      have hbb4 := hbb3.trans (hb.mono hbb3.size)
      have hsz4 := hb.size
      have HW : Keep (w.heap.size ≤ wr.heap.size) := ⟨hbb4.size⟩
      have hb0 := hb
      clear hbb4
      clear hb hr3 hs3
      generalize wr = w4 at *
      have HB4 : Keep _ := ⟨hb0⟩
      clear hb0
      rcases j with _ | i
      · have hbb4 : Below w4.heap.size w4 w4 := Below.refl _ _
        obtain ⟨ta, hta⟩ : ∃ ta, chainL key b 0 ++ b ++ [((0 + 1 : Nat) : Int) % 256] = ta := ⟨_, rfl⟩
        obtain ⟨tt, htt⟩ : ∃ tt, chainL key b (0 + 1) = tt := ⟨_, rfl⟩
        have MAC : Keep (macL key ta = tt) := ⟨by rw [← htt, ← hta]; rfl⟩
        have TL : Keep (tt.length = 32) := ⟨by rw [← htt]; exact chainL_len _ _ _⟩
        have TB : Keep (Bytes ta) := ⟨by rw [← hta]; exact bytes_append (bytes_append (chainL_bytes _ _ _) BY'.out) (bytes_one (by omega) (by omega))⟩
        have SEG : Keep ((xs.drop (32 * 0)).take 32 = tt) := ⟨by rw [HR.out, ← htt]; exact rowL_seg key b hlt⟩
        rw [show ((0 + 1 : Nat) : Int) % 256 = 1 from rfl] at hta
        have TA : Keep _ := ⟨hta⟩
        clear hta htt
        have hoa : Own w4 w4.heap.size 5 .u8 none 0 0 [] := own_none _ _ _ _
        go_wp2_with (first
          | (refine append_abs (by rfl) (.tmp 61) (.tmp 62) 23 (by rfl) w4.heap.size 5 .u8 1 Try.underlying23 u8Elem none 0 0 (chainL key b 0) (by rfl) hoa w.heap.size A' n' c' b (by rfl) hs4 n' (Nat.zero_add n') (chainL key b 0 ++ b) (by rfl) (by have := HN.out; omega) (by have := HN.out; unfold maxLen; omega) (Nat.le_refl _) ?_
             intro A7 c7 w7 ho7 hb7
             have hr7 := hr4.keep hb7 HW.out
             have hx7 := hx4.keep hb7 hsz4
             have hbb7 := hbb4.trans (hb7.mono hbb4.size)
             have hsz7 := Nat.le_trans (Nat.le_refl _) hb7.size
             clear hoa hb7)
          | (refine append_abs (by rfl) (.tmp 63) (.tmp 67) 23 (by rfl) w4.heap.size 5 .u8 1 Try.underlying23 u8Elem A7 n' c7 (chainL key b 0 ++ b) (by rfl) (ho7.keep ((Below.refl _ _).alloc (Nat.le_refl _) _)) (w7.heap.size + 1) (some ⟨w7.heap.size, 0, none⟩) 1 1 [1] (by rfl) (Rd.of_has (Has.new w7 5 (vals .u8 [1])) (by omega) (by rfl) (by simp)) (n' + 1) (by rfl) ta TA.out (by have := HN.out; omega) (by have := HN.out; unfold maxLen; omega) (by simp; omega) ?_
             intro A8 c8 w8 ho8 hb8
             have hbe := ((Below.refl w7.heap.size w7).alloc (Nat.le_refl _) (.cells (vals .u8 [1]) 5))
             have hr8 := (hr7.keep hbe (Nat.le_trans HW.out hsz7)).keep hb8 HW.out
             have hx8 := (hx7.keep hbe (Nat.le_trans hsz4 hsz7)).keep hb8 hsz4
             have hbb8 := (hbb7.trans (hbe.mono hbb7.size)).trans (hb8.mono hbb4.size)
             have hsz8 := Nat.le_trans (Nat.le_trans hsz7 hbe.size) hb8.size
             clear hbe hb8 ho7 hr7 hx7 hbb7)
          | (go_at_call 13
             refine (mac_c A n c key A8 (n' + 1) c8 ta w8.heap.size w8 (hr8.more (Nat.le_trans HW.out hsz8)) BY.out ho8.rd TB.out (Nat.le_refl _) (by have := HN.out; omega) (by have := HN.out; omega)).mono ?_
             rintro e w9 ⟨rfl, hb9⟩
             rw [MAC.out]
             have hx9 := hx8.keep hb9 (Nat.le_trans hsz4 hsz8)
             have hbb9 := hbb8.trans (hb9.mono hbb8.size)
             have hsz9 := Nat.le_trans hsz8 hb9.size
             clear hb9 hr8 hx8 hbb8 ho8)
          | (refine store_abs2 (by rfl) 29 (.tmp 12) (.tmp 69) (by rfl) (by rfl) w9.heap.size (vals .u8 tt) (by rfl) (by rfl) 29 (vals .u8 Z32) (Has.new' _ rfl _ _) (by rw [vals_size, TL.out]; kernel_rfl) (by rw [vals_size, vals_size, TL.out]; rfl) vals_one ?_
             intro w10 hS10 hkeep hbg
             have hbe := ((Below.refl w9.heap.size w9).alloc (Nat.le_refl _) (.cells (vals .u8 Z32) 29)).trans hbg
             have hx10 := hx9.keep hbe (Nat.le_trans hsz4 hsz9)
             have hbb10 := hbb9.trans (hbe.mono hbb9.size)
             have hsz10 := Nat.le_trans hsz9 hbe.size
             clear hkeep hbg hbe hx9 hbb9))
        refine wp_fam_all (by kernel_rfl) (by kernel_rfl) (fun I hI' fw hf hback => ?_)
        have SM : ∀ q, Calls Try.prog 12 #[.slice (some ⟨w9.heap.size, 0, none⟩) 32 32, .slice (some ⟨b3, o3, none⟩) 32 c3] (fw q) fun e w' => e = .returned (.bool true) ∧ Below (fw q).heap.size (fw q) w' := fun q => by
          have h1 : Rd (fw q) (fw q).heap.size (some ⟨w9.heap.size, 0, none⟩) 32 .u8 tt := Rd.of_has (hS10.keep (hf q)) (hS10.keep (hf q)).lt (by rw [List.drop_zero, List.take_of_length_le (by rw [TL.out]; omega)]) (by rw [TL.out]; omega)
          have h2 : Rd (fw q) (fw q).heap.size (some ⟨b3, o3, none⟩) 32 .u8 tt := Rd.sub (lo := 32 * 0) ((hx10.keep (hf q) (Nat.le_trans hsz4 hsz10)).more (Nat.le_trans (Nat.le_trans hsz4 hsz10) (hf q).size)) (by omega) SEG.out
          have h3 := same_c (some ⟨w9.heap.size, 0, none⟩) (some ⟨b3, o3, none⟩) 32 32 32 c3 tt tt _ _ (fw q) h1 (Nat.le_refl _) h2 (Nat.le_refl _) (by omega) (by omega)
          rw [decide_eq_true (rfl : tt = tt)] at h3
          exact h3
        repeat (go_big_quiet_step ((go_at_call 12; exact calls_fam hf hback (SM _))))
        refine wpQuiet_nil ?_
        intro w11 hb11
        have hb12 : Below w3.heap.size w3 w11 := HB4.out.trans ((hbb10.trans (hb11.mono hsz10)).mono HB4.out.size)
        clear hf hback SM
        go_wp2
        go_roundw
        case rel => exact ⟨0 + 1, by omega, by go_num, hb12⟩
        case measure => simp [intOf]; omega
      · have hbb4 : Below w4.heap.size w4 w4 := Below.refl _ _
        obtain ⟨ta, hta⟩ : ∃ ta, chainL key b (i + 1) ++ b ++ [(((i + 1) + 1 : Nat) : Int) % 256] = ta := ⟨_, rfl⟩
        obtain ⟨tt, htt⟩ : ∃ tt, chainL key b ((i + 1) + 1) = tt := ⟨_, rfl⟩
        have MAC : Keep (macL key ta = tt) := ⟨by rw [← htt, ← hta]; rfl⟩
        have TL : Keep (tt.length = 32) := ⟨by rw [← htt]; exact chainL_len _ _ _⟩
        have TB : Keep (Bytes ta) := ⟨by rw [← hta]; exact bytes_append (bytes_append (chainL_bytes _ _ _) BY'.out) (bytes_one (by omega) (by omega))⟩
        have SEG : Keep ((xs.drop (32 * (i + 1))).take 32 = tt) := ⟨by rw [HR.out, ← htt]; exact rowL_seg key b hlt⟩
        rw [show ((i + 1 + 1 : Nat) : Int) % 256 = (i : Int) + 1 + 1 by omega] at hta
        have TA : Keep _ := ⟨hta⟩
        have CL : Keep ((chainL key b (i + 1)).length = 32) := ⟨chainL_len _ _ _⟩
        have hseg : Rd w4 w3.heap.size (some ⟨b3, o3 + (32 * (i + 1) - 32), none⟩) (32 * (i + 1) - (32 * (i + 1) - 32)) .u8 (chainL key b (i + 1)) := Rd.sub hx4 (by omega) (by rw [show 32 * (i + 1) - (32 * (i + 1) - 32) = 32 by omega, show 32 * (i + 1) - 32 = 32 * i by omega, HR.out]; exact rowL_seg key b (by omega))
        clear hta htt
        go_wp2_with (first
          | (refine append_abs (by rfl) (.tmp 51) (.tmp 58) 23 (by rfl) w4.heap.size 5 .u8 1 Try.underlying23 u8Elem none 0 0 [] (by rfl) (own_none _ _ _ _) w3.heap.size (some ⟨b3, o3 + (32 * (i + 1) - 32), none⟩) (32 * (i + 1) - (32 * (i + 1) - 32)) (c3 - (32 * (i + 1) - 32)) (chainL key b (i + 1)) (by rfl) hseg 32 (by omega) (chainL key b (i + 1)) (by rfl) (by omega) (by unfold maxLen; omega) (Nat.le_refl _) ?_
             intro A5 c5 w5 ho5 hb5
             have hr5 := hr4.keep hb5 HW.out
             have hs5 := hs4.keep hb5 HW.out
             have hx5 := hx4.keep hb5 hsz4
             have hbb5 := hbb4.trans (hb5.mono hbb4.size)
             have hsz5 := hb5.size
             clear hb5 hseg hr4 hs4 hx4)
          | (refine append_abs (by rfl) (.tmp 61) (.tmp 62) 23 (by rfl) w4.heap.size 5 .u8 1 Try.underlying23 u8Elem A5 32 c5 (chainL key b (i + 1)) (by rfl) ho5 w.heap.size A' n' c' b (by rfl) hs5 (32 + n') (by rfl) (chainL key b (i + 1) ++ b) (by rfl) (by have := HN.out; omega) (by have := HN.out; unfold maxLen; omega) hsz5 ?_
             intro A7 c7 w7 ho7 hb7
             have hr7 := hr5.keep hb7 HW.out
             have hx7 := hx5.keep hb7 hsz4
             have hbb7 := hbb5.trans (hb7.mono hbb4.size)
             have hsz7 := Nat.le_trans hsz5 hb7.size
             clear ho5 hb7)
          | (refine append_abs (by rfl) (.tmp 63) (.tmp 67) 23 (by rfl) w4.heap.size 5 .u8 1 Try.underlying23 u8Elem A7 (32 + n') c7 (chainL key b (i + 1) ++ b) (by rfl) (ho7.keep ((Below.refl _ _).alloc (Nat.le_refl _) _)) (w7.heap.size + 1) (some ⟨w7.heap.size, 0, none⟩) 1 1 [(i : Int) + 1 + 1] (by rfl) (Rd.of_has (Has.new w7 5 (vals .u8 [(i : Int) + 1 + 1])) (by omega) (by rfl) (by simp)) ((32 + n') + 1) (by rfl) ta TA.out (by have := HN.out; omega) (by have := HN.out; unfold maxLen; omega) (by simp; omega) ?_
             intro A8 c8 w8 ho8 hb8
             have hbe := ((Below.refl w7.heap.size w7).alloc (Nat.le_refl _) (.cells (vals .u8 [(i : Int) + 1 + 1]) 5))
             have hr8 := (hr7.keep hbe (Nat.le_trans HW.out hsz7)).keep hb8 HW.out
             have hx8 := (hx7.keep hbe (Nat.le_trans hsz4 hsz7)).keep hb8 hsz4
             have hbb8 := (hbb7.trans (hbe.mono hbb7.size)).trans (hb8.mono hbb4.size)
             have hsz8 := Nat.le_trans (Nat.le_trans hsz7 hbe.size) hb8.size
             clear hbe hb8 ho7 hr7 hx7 hbb7)
          | (go_at_call 13
             refine (mac_c A n c key A8 ((32 + n') + 1) c8 ta w8.heap.size w8 (hr8.more (Nat.le_trans HW.out hsz8)) BY.out ho8.rd TB.out (Nat.le_refl _) (by have := HN.out; omega) (by have := HN.out; omega)).mono ?_
             rintro e w9 ⟨rfl, hb9⟩
             rw [MAC.out]
             have hx9 := hx8.keep hb9 (Nat.le_trans hsz4 hsz8)
             have hbb9 := hbb8.trans (hb9.mono hbb8.size)
             have hsz9 := Nat.le_trans hsz8 hb9.size
             clear hb9 hr8 hx8 hbb8 ho8)
          | (refine store_abs2 (by rfl) 29 (.tmp 12) (.tmp 69) (by rfl) (by rfl) w9.heap.size (vals .u8 tt) (by rfl) (by rfl) 29 (vals .u8 Z32) (Has.new' _ rfl _ _) (by rw [vals_size, TL.out]; kernel_rfl) (by rw [vals_size, vals_size, TL.out]; rfl) vals_one ?_
             intro w10 hS10 hkeep hbg
             have hbe := ((Below.refl w9.heap.size w9).alloc (Nat.le_refl _) (.cells (vals .u8 Z32) 29)).trans hbg
             have hx10 := hx9.keep hbe (Nat.le_trans hsz4 hsz9)
             have hbb10 := hbb9.trans (hbe.mono hbb9.size)
             have hsz10 := Nat.le_trans hsz9 hbe.size
             clear hkeep hbg hbe hx9 hbb9))
        refine wp_fam_all (by kernel_rfl) (by kernel_rfl) (fun I hI' fw hf hback => ?_)
        have SM : ∀ q, Calls Try.prog 12 #[.slice (some ⟨w9.heap.size, 0, none⟩) 32 32, .slice (some ⟨b3, o3 + 32 * (i + 1), none⟩) 32 (c3 - 32 * (i + 1))] (fw q) fun e w' => e = .returned (.bool true) ∧ Below (fw q).heap.size (fw q) w' := fun q => by
          have h1 : Rd (fw q) (fw q).heap.size (some ⟨w9.heap.size, 0, none⟩) 32 .u8 tt := Rd.of_has (hS10.keep (hf q)) (hS10.keep (hf q)).lt (by rw [List.drop_zero, List.take_of_length_le (by rw [TL.out]; omega)]) (by rw [TL.out]; omega)
          have h2 : Rd (fw q) (fw q).heap.size (some ⟨b3, o3 + 32 * (i + 1), none⟩) 32 .u8 tt := Rd.sub (lo := 32 * (i + 1)) ((hx10.keep (hf q) (Nat.le_trans hsz4 hsz10)).more (Nat.le_trans (Nat.le_trans hsz4 hsz10) (hf q).size)) (by omega) SEG.out
          have h3 := same_c (some ⟨w9.heap.size, 0, none⟩) (some ⟨b3, o3 + 32 * (i + 1), none⟩) 32 32 32 (c3 - 32 * (i + 1)) tt tt _ _ (fw q) h1 (Nat.le_refl _) h2 (Nat.le_refl _) (by omega) (by omega)
          rw [decide_eq_true (rfl : tt = tt)] at h3
          exact h3
        repeat (go_big_quiet_step ((go_at_call 12; exact calls_fam hf hback (SM _))))
        refine wpQuiet_nil ?_
        intro w11 hb11
        have hb12 : Below w3.heap.size w3 w11 := HB4.out.trans ((hbb10.trans (hb11.mono hsz10)).mono HB4.out.size)
        clear hf hback SM
        go_wp2
        go_roundw
        case rel => exact ⟨(i + 1) + 1, by omega, by go_num, hb12⟩
        case measure => simp [intOf]; omega
    · obtain rfl : j = z := by omega
      go_wp2
      go_ret
      exact ⟨rfl, hbb3.trans (hb.mono hbb3.size)⟩
set_option maxRecDepth 100000 in
set_option maxHeartbeats 2000000 in
theorem chains_neg (A : Option Addr) (n c : Nat) (key : List Int) (A' : Option Addr) (n' c' : Nat) (b : List Int) (m : Int) (w : World) (hr : Rd w w.heap.size A n .u8 key) (hby : Bytes key) (hr' : Rd w w.heap.size A' n' .u8 b) (hby' : Bytes b) (hn : n ≤ 500 ∧ n' ≤ 500) (hm : m < 0) (hlo : -9223372036854775808 ≤ m) :
    Calls Try.prog 7 #[.slice A n c, .slice A' n' c', .int .i64 m] w fun e w' => e = .returned (.bool true) ∧ Below w.heap.size w w' := by
  have hd : decide (n ≤ 500 ∧ n' ≤ 500) = true := decide_eq_true hn
  have HD : Keep _ := ⟨hd⟩
  have HN : Keep (n ≤ 1000 ∧ n' ≤ 1000 ∧ n ≤ 500 ∧ n' ≤ 500) := ⟨by omega⟩
  have LN : Keep _ := ⟨hr.len⟩
  have LN' : Keep _ := ⟨hr'.len⟩
  have BY : Keep _ := ⟨hby⟩
  have BY' : Keep _ := ⟨hby'⟩
  obtain ⟨z, hz⟩ : ∃ z : Nat, (-(m + 1)) % 20 = z := ⟨((-(m + 1)) % 20).toNat, by have := Int.emod_nonneg (-(m + 1)) (b := 20) (by omega); omega⟩
  have hz20 : z < 20 := by have := Int.emod_lt_of_pos (-(m + 1)) (b := 20) (by omega); omega
  have ht : -((m + 1).tmod 20) = z := by rw [← Int.neg_tmod, Int.tmod_eq_emod_of_nonneg (by omega)]; exact hz
  obtain ⟨xs, hxs⟩ : ∃ xs, expandL key b (32 * z) = xs := ⟨_, rfl⟩
  have HX : Keep _ := ⟨hxs⟩
  have HR : Keep (xs = rowL key b z) := ⟨by rw [← hxs, expandL_whole]⟩
  clear hd hn hby hby' hxs hz
  go_enter Try.func7, Try.ntmps7
  go_wp2_with (first
    | (go_at_call 8; refine (awake_c _).mono ?_; rintro e w1 ⟨rfl, hb1⟩)
    | (go_at_call 9; refine (few_c A n c A' n' c' w1).mono ?_; rintro e w2 ⟨rfl, hb2⟩; rw [HD.out]; have hbb2 := hb1.trans (hb2.mono hb1.size); have hr2 := hr.keep hbb2 (Nat.le_refl _); have hs2 := hr'.keep hbb2 (Nat.le_refl _); clear hb1 hb2)
    | (go_at_call 10
       refine (expand_c A n c key A' n' c' b (32 * z) w.heap.size w2 hr2 BY.out hs2 BY'.out hbb2.size HN.out.1 HN.out.2.1 (by omega)).mono ?_
       rintro e w3 ⟨A3, c3, rfl, hx3, hc3, hb3⟩
       rw [HX.out] at hx3
       have hr3 := hr2.keep hb3 hbb2.size
       have hs3 := hs2.keep hb3 hbb2.size
       have hbb3 := hbb2.trans (hb3.mono hbb2.size)
       clear hbb2 hb3 hr2 hs2 hr hr'))
  go_loopw [10] (fun i wr => ∃ j : Nat, j ≤ z ∧ i = .int .i64 j ∧ Below w3.heap.size w3 wr) (fun i _ => z - (intOf i).toNat)
  case atStart => exact ⟨0, Nat.zero_le _, rfl, Below.refl _ _⟩
  case round =>
    obtain ⟨j, hj, rfl, hb⟩ := hrel
    by_cases hlt : j < z
    · obtain ⟨b3, o3, rfl, hlb3, _⟩ := hx3.at_ (by omega)
      have hx4 := hx3.keep hb (Nat.le_refl _)
      have hr4 := hr3.keep hb hbb3.size
      have hs4 := hs3.keep hb hbb3.size
      have hbb4 := hbb3.trans (hb.mono hbb3.size)
      have hsz4 := hb.size
      have HW : Keep (w.heap.size ≤ wr.heap.size) := ⟨hbb4.size⟩
      have hb0 := hb
      clear hbb4
      clear hb hr3 hs3
      generalize wr = w4 at *
      have HB4 : Keep _ := ⟨hb0⟩
      clear hb0
      rcases j with _ | i
      · have hbb4 : Below w4.heap.size w4 w4 := Below.refl _ _
        obtain ⟨ta, hta⟩ : ∃ ta, chainL key b 0 ++ b ++ [((0 + 1 : Nat) : Int) % 256] = ta := ⟨_, rfl⟩
        obtain ⟨tt, htt⟩ : ∃ tt, chainL key b (0 + 1) = tt := ⟨_, rfl⟩
        have MAC : Keep (macL key ta = tt) := ⟨by rw [← htt, ← hta]; rfl⟩
        have TL : Keep (tt.length = 32) := ⟨by rw [← htt]; exact chainL_len _ _ _⟩
        have TB : Keep (Bytes ta) := ⟨by rw [← hta]; exact bytes_append (bytes_append (chainL_bytes _ _ _) BY'.out) (bytes_one (by omega) (by omega))⟩
        have SEG : Keep ((xs.drop (32 * 0)).take 32 = tt) := ⟨by rw [HR.out, ← htt]; exact rowL_seg key b hlt⟩
        rw [show ((0 + 1 : Nat) : Int) % 256 = 1 from rfl] at hta
        have TA : Keep _ := ⟨hta⟩
        clear hta htt
        have hoa : Own w4 w4.heap.size 5 .u8 none 0 0 [] := own_none _ _ _ _
        go_wp2_with (first
          | (refine append_abs (by rfl) (.tmp 61) (.tmp 62) 23 (by rfl) w4.heap.size 5 .u8 1 Try.underlying23 u8Elem none 0 0 (chainL key b 0) (by rfl) hoa w.heap.size A' n' c' b (by rfl) hs4 n' (Nat.zero_add n') (chainL key b 0 ++ b) (by rfl) (by have := HN.out; omega) (by have := HN.out; unfold maxLen; omega) (Nat.le_refl _) ?_
             intro A7 c7 w7 ho7 hb7
             have hr7 := hr4.keep hb7 HW.out
             have hx7 := hx4.keep hb7 hsz4
             have hbb7 := hbb4.trans (hb7.mono hbb4.size)
             have hsz7 := Nat.le_trans (Nat.le_refl _) hb7.size
             clear hoa hb7)
          | (refine append_abs (by rfl) (.tmp 63) (.tmp 67) 23 (by rfl) w4.heap.size 5 .u8 1 Try.underlying23 u8Elem A7 n' c7 (chainL key b 0 ++ b) (by rfl) (ho7.keep ((Below.refl _ _).alloc (Nat.le_refl _) _)) (w7.heap.size + 1) (some ⟨w7.heap.size, 0, none⟩) 1 1 [1] (by rfl) (Rd.of_has (Has.new w7 5 (vals .u8 [1])) (by omega) (by rfl) (by simp)) (n' + 1) (by rfl) ta TA.out (by have := HN.out; omega) (by have := HN.out; unfold maxLen; omega) (by simp; omega) ?_
             intro A8 c8 w8 ho8 hb8
             have hbe := ((Below.refl w7.heap.size w7).alloc (Nat.le_refl _) (.cells (vals .u8 [1]) 5))
             have hr8 := (hr7.keep hbe (Nat.le_trans HW.out hsz7)).keep hb8 HW.out
             have hx8 := (hx7.keep hbe (Nat.le_trans hsz4 hsz7)).keep hb8 hsz4
             have hbb8 := (hbb7.trans (hbe.mono hbb7.size)).trans (hb8.mono hbb4.size)
             have hsz8 := Nat.le_trans (Nat.le_trans hsz7 hbe.size) hb8.size
             clear hbe hb8 ho7 hr7 hx7 hbb7)
          | (go_at_call 13
             refine (mac_c A n c key A8 (n' + 1) c8 ta w8.heap.size w8 (hr8.more (Nat.le_trans HW.out hsz8)) BY.out ho8.rd TB.out (Nat.le_refl _) (by have := HN.out; omega) (by have := HN.out; omega)).mono ?_
             rintro e w9 ⟨rfl, hb9⟩
             rw [MAC.out]
             have hx9 := hx8.keep hb9 (Nat.le_trans hsz4 hsz8)
             have hbb9 := hbb8.trans (hb9.mono hbb8.size)
             have hsz9 := Nat.le_trans hsz8 hb9.size
             clear hb9 hr8 hx8 hbb8 ho8)
          | (refine store_abs2 (by rfl) 29 (.tmp 12) (.tmp 69) (by rfl) (by rfl) w9.heap.size (vals .u8 tt) (by rfl) (by rfl) 29 (vals .u8 Z32) (Has.new' _ rfl _ _) (by rw [vals_size, TL.out]; kernel_rfl) (by rw [vals_size, vals_size, TL.out]; rfl) vals_one ?_
             intro w10 hS10 hkeep hbg
             have hbe := ((Below.refl w9.heap.size w9).alloc (Nat.le_refl _) (.cells (vals .u8 Z32) 29)).trans hbg
             have hx10 := hx9.keep hbe (Nat.le_trans hsz4 hsz9)
             have hbb10 := hbb9.trans (hbe.mono hbb9.size)
             have hsz10 := Nat.le_trans hsz9 hbe.size
             clear hkeep hbg hbe hx9 hbb9))
        refine wp_fam_all (by kernel_rfl) (by kernel_rfl) (fun I hI' fw hf hback => ?_)
        have SM : ∀ q, Calls Try.prog 12 #[.slice (some ⟨w9.heap.size, 0, none⟩) 32 32, .slice (some ⟨b3, o3, none⟩) 32 c3] (fw q) fun e w' => e = .returned (.bool true) ∧ Below (fw q).heap.size (fw q) w' := fun q => by
          have h1 : Rd (fw q) (fw q).heap.size (some ⟨w9.heap.size, 0, none⟩) 32 .u8 tt := Rd.of_has (hS10.keep (hf q)) (hS10.keep (hf q)).lt (by rw [List.drop_zero, List.take_of_length_le (by rw [TL.out]; omega)]) (by rw [TL.out]; omega)
          have h2 : Rd (fw q) (fw q).heap.size (some ⟨b3, o3, none⟩) 32 .u8 tt := Rd.sub (lo := 32 * 0) ((hx10.keep (hf q) (Nat.le_trans hsz4 hsz10)).more (Nat.le_trans (Nat.le_trans hsz4 hsz10) (hf q).size)) (by omega) SEG.out
          have h3 := same_c (some ⟨w9.heap.size, 0, none⟩) (some ⟨b3, o3, none⟩) 32 32 32 c3 tt tt _ _ (fw q) h1 (Nat.le_refl _) h2 (Nat.le_refl _) (by omega) (by omega)
          rw [decide_eq_true (rfl : tt = tt)] at h3
          exact h3
        repeat (go_big_quiet_step ((go_at_call 12; exact calls_fam hf hback (SM _))))
        refine wpQuiet_nil ?_
        intro w11 hb11
        have hb12 : Below w3.heap.size w3 w11 := HB4.out.trans ((hbb10.trans (hb11.mono hsz10)).mono HB4.out.size)
        clear hf hback SM
        go_wp2
        go_roundw
        case rel => exact ⟨0 + 1, by omega, by go_num, hb12⟩
        case measure => simp [intOf]; omega
      · have hbb4 : Below w4.heap.size w4 w4 := Below.refl _ _
        obtain ⟨ta, hta⟩ : ∃ ta, chainL key b (i + 1) ++ b ++ [(((i + 1) + 1 : Nat) : Int) % 256] = ta := ⟨_, rfl⟩
        obtain ⟨tt, htt⟩ : ∃ tt, chainL key b ((i + 1) + 1) = tt := ⟨_, rfl⟩
        have MAC : Keep (macL key ta = tt) := ⟨by rw [← htt, ← hta]; rfl⟩
        have TL : Keep (tt.length = 32) := ⟨by rw [← htt]; exact chainL_len _ _ _⟩
        have TB : Keep (Bytes ta) := ⟨by rw [← hta]; exact bytes_append (bytes_append (chainL_bytes _ _ _) BY'.out) (bytes_one (by omega) (by omega))⟩
        have SEG : Keep ((xs.drop (32 * (i + 1))).take 32 = tt) := ⟨by rw [HR.out, ← htt]; exact rowL_seg key b hlt⟩
        rw [show ((i + 1 + 1 : Nat) : Int) % 256 = (i : Int) + 1 + 1 by omega] at hta
        have TA : Keep _ := ⟨hta⟩
        have CL : Keep ((chainL key b (i + 1)).length = 32) := ⟨chainL_len _ _ _⟩
        have hseg : Rd w4 w3.heap.size (some ⟨b3, o3 + (32 * (i + 1) - 32), none⟩) (32 * (i + 1) - (32 * (i + 1) - 32)) .u8 (chainL key b (i + 1)) := Rd.sub hx4 (by omega) (by rw [show 32 * (i + 1) - (32 * (i + 1) - 32) = 32 by omega, show 32 * (i + 1) - 32 = 32 * i by omega, HR.out]; exact rowL_seg key b (by omega))
        clear hta htt
        go_wp2_with (first
          | (refine append_abs (by rfl) (.tmp 51) (.tmp 58) 23 (by rfl) w4.heap.size 5 .u8 1 Try.underlying23 u8Elem none 0 0 [] (by rfl) (own_none _ _ _ _) w3.heap.size (some ⟨b3, o3 + (32 * (i + 1) - 32), none⟩) (32 * (i + 1) - (32 * (i + 1) - 32)) (c3 - (32 * (i + 1) - 32)) (chainL key b (i + 1)) (by rfl) hseg 32 (by omega) (chainL key b (i + 1)) (by rfl) (by omega) (by unfold maxLen; omega) (Nat.le_refl _) ?_
             intro A5 c5 w5 ho5 hb5
             have hr5 := hr4.keep hb5 HW.out
             have hs5 := hs4.keep hb5 HW.out
             have hx5 := hx4.keep hb5 hsz4
             have hbb5 := hbb4.trans (hb5.mono hbb4.size)
             have hsz5 := hb5.size
             clear hb5 hseg hr4 hs4 hx4)
          | (refine append_abs (by rfl) (.tmp 61) (.tmp 62) 23 (by rfl) w4.heap.size 5 .u8 1 Try.underlying23 u8Elem A5 32 c5 (chainL key b (i + 1)) (by rfl) ho5 w.heap.size A' n' c' b (by rfl) hs5 (32 + n') (by rfl) (chainL key b (i + 1) ++ b) (by rfl) (by have := HN.out; omega) (by have := HN.out; unfold maxLen; omega) hsz5 ?_
             intro A7 c7 w7 ho7 hb7
             have hr7 := hr5.keep hb7 HW.out
             have hx7 := hx5.keep hb7 hsz4
             have hbb7 := hbb5.trans (hb7.mono hbb4.size)
             have hsz7 := Nat.le_trans hsz5 hb7.size
             clear ho5 hb7)
          | (refine append_abs (by rfl) (.tmp 63) (.tmp 67) 23 (by rfl) w4.heap.size 5 .u8 1 Try.underlying23 u8Elem A7 (32 + n') c7 (chainL key b (i + 1) ++ b) (by rfl) (ho7.keep ((Below.refl _ _).alloc (Nat.le_refl _) _)) (w7.heap.size + 1) (some ⟨w7.heap.size, 0, none⟩) 1 1 [(i : Int) + 1 + 1] (by rfl) (Rd.of_has (Has.new w7 5 (vals .u8 [(i : Int) + 1 + 1])) (by omega) (by rfl) (by simp)) ((32 + n') + 1) (by rfl) ta TA.out (by have := HN.out; omega) (by have := HN.out; unfold maxLen; omega) (by simp; omega) ?_
             intro A8 c8 w8 ho8 hb8
             have hbe := ((Below.refl w7.heap.size w7).alloc (Nat.le_refl _) (.cells (vals .u8 [(i : Int) + 1 + 1]) 5))
             have hr8 := (hr7.keep hbe (Nat.le_trans HW.out hsz7)).keep hb8 HW.out
             have hx8 := (hx7.keep hbe (Nat.le_trans hsz4 hsz7)).keep hb8 hsz4
             have hbb8 := (hbb7.trans (hbe.mono hbb7.size)).trans (hb8.mono hbb4.size)
             have hsz8 := Nat.le_trans (Nat.le_trans hsz7 hbe.size) hb8.size
             clear hbe hb8 ho7 hr7 hx7 hbb7)
          | (go_at_call 13
             refine (mac_c A n c key A8 ((32 + n') + 1) c8 ta w8.heap.size w8 (hr8.more (Nat.le_trans HW.out hsz8)) BY.out ho8.rd TB.out (Nat.le_refl _) (by have := HN.out; omega) (by have := HN.out; omega)).mono ?_
             rintro e w9 ⟨rfl, hb9⟩
             rw [MAC.out]
             have hx9 := hx8.keep hb9 (Nat.le_trans hsz4 hsz8)
             have hbb9 := hbb8.trans (hb9.mono hbb8.size)
             have hsz9 := Nat.le_trans hsz8 hb9.size
             clear hb9 hr8 hx8 hbb8 ho8)
          | (refine store_abs2 (by rfl) 29 (.tmp 12) (.tmp 69) (by rfl) (by rfl) w9.heap.size (vals .u8 tt) (by rfl) (by rfl) 29 (vals .u8 Z32) (Has.new' _ rfl _ _) (by rw [vals_size, TL.out]; kernel_rfl) (by rw [vals_size, vals_size, TL.out]; rfl) vals_one ?_
             intro w10 hS10 hkeep hbg
             have hbe := ((Below.refl w9.heap.size w9).alloc (Nat.le_refl _) (.cells (vals .u8 Z32) 29)).trans hbg
             have hx10 := hx9.keep hbe (Nat.le_trans hsz4 hsz9)
             have hbb10 := hbb9.trans (hbe.mono hbb9.size)
             have hsz10 := Nat.le_trans hsz9 hbe.size
             clear hkeep hbg hbe hx9 hbb9))
        refine wp_fam_all (by kernel_rfl) (by kernel_rfl) (fun I hI' fw hf hback => ?_)
        have SM : ∀ q, Calls Try.prog 12 #[.slice (some ⟨w9.heap.size, 0, none⟩) 32 32, .slice (some ⟨b3, o3 + 32 * (i + 1), none⟩) 32 (c3 - 32 * (i + 1))] (fw q) fun e w' => e = .returned (.bool true) ∧ Below (fw q).heap.size (fw q) w' := fun q => by
          have h1 : Rd (fw q) (fw q).heap.size (some ⟨w9.heap.size, 0, none⟩) 32 .u8 tt := Rd.of_has (hS10.keep (hf q)) (hS10.keep (hf q)).lt (by rw [List.drop_zero, List.take_of_length_le (by rw [TL.out]; omega)]) (by rw [TL.out]; omega)
          have h2 : Rd (fw q) (fw q).heap.size (some ⟨b3, o3 + 32 * (i + 1), none⟩) 32 .u8 tt := Rd.sub (lo := 32 * (i + 1)) ((hx10.keep (hf q) (Nat.le_trans hsz4 hsz10)).more (Nat.le_trans (Nat.le_trans hsz4 hsz10) (hf q).size)) (by omega) SEG.out
          have h3 := same_c (some ⟨w9.heap.size, 0, none⟩) (some ⟨b3, o3 + 32 * (i + 1), none⟩) 32 32 32 (c3 - 32 * (i + 1)) tt tt _ _ (fw q) h1 (Nat.le_refl _) h2 (Nat.le_refl _) (by omega) (by omega)
          rw [decide_eq_true (rfl : tt = tt)] at h3
          exact h3
        repeat (go_big_quiet_step ((go_at_call 12; exact calls_fam hf hback (SM _))))
        refine wpQuiet_nil ?_
        intro w11 hb11
        have hb12 : Below w3.heap.size w3 w11 := HB4.out.trans ((hbb10.trans (hb11.mono hsz10)).mono HB4.out.size)
        clear hf hback SM
        go_wp2
        go_roundw
        case rel => exact ⟨(i + 1) + 1, by omega, by go_num, hb12⟩
        case measure => simp [intOf]; omega
    · obtain rfl : j = z := by omega
      go_wp2
      go_ret
      exact ⟨rfl, hbb3.trans (hb.mono hbb3.size)⟩
theorem chains_w {w : World} {A : Option Addr} {n : Nat} (c : Nat) {key : List Int} {A' : Option Addr} {n' : Nat} (c' : Nat) {b : List Int} (m : Int) (hlo : -9223372036854775808 ≤ m) (h : Rd w w.heap.size A n .u8 key ∧ Bytes key) (h' : Rd w w.heap.size A' n' .u8 b ∧ Bytes b) :
    Calls Try.prog 7 #[.slice A n c, .slice A' n' c', .int .i64 m] w fun e w' => e = .returned (.bool true) ∧ Below w.heap.size w w' := by
  by_cases hn : n ≤ 500 ∧ n' ≤ 500
  · rcases Int.lt_or_le m 0 with hm | hm
    · exact chains_neg A n c key A' n' c' b m w h.1 h.2 h'.1 h'.2 hn hm hlo
    · exact chains_pos A n c key A' n' c' b m w h.1 h.2 h'.1 h'.2 hn hm
  · exact chains_big A n c A' n' c' m w hn
end Go.Proofs.Ytkjbfkhiijnemaa.Hk
