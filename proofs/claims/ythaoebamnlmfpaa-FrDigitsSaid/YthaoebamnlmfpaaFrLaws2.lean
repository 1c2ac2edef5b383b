/-
  Own text. The walks of layer 6's statements: windows.
-/
import Derived.Test.YthaoebamnlmfpaaFrLaws
namespace Go.Proofs.Ythaoebamnlmfpaa.Fr
set_option linter.unusedVariables false
set_option linter.unusedSimpArgs false
open Go Go.RowKit Go.Proofs.Ythaoebamnlmfpaa.Num Go.Proofs.Ythaoebamnlmfpaa.Reg Go.Proofs.Ythaoebamnlmfpaa.Base Go.Proofs.Ythaoebamnlmfpaa.Limb Go.Proofs.Ythaoebamnlmfpaa.Bits

set_option maxRecDepth 100000 in
set_option maxHeartbeats 2000000 in
theorem same_c (n : Nat) (A : Option Addr) (c : Nat) (A' : Option Addr) (c' : Nat) (l : List Int) (w : World) (hr : Rd w w.heap.size A n .i64 l) (hr' : Rd w w.heap.size A' n .i64 l) (hn : n ≤ 100000) : Calls Try.prog 32 #[.slice A n c, .slice A' n c'] w fun e w' => e = .returned (.bool true) ∧ Below w.heap.size w w' := by
  have hb0 := Below.refl w.heap.size w
  go_enter Try.func32, Try.ntmps32
  go_wp2
  go_loopg [5] n (fun (gk : Nat) vi wr => ∃ k : Nat, k + gk = n ∧ vi = .int .i64 k ∧ Below w.heap.size w wr)
  case atStart => exact ⟨0, by omega, rfl, hb0⟩
  case round =>
    clear hb0
    obtain ⟨k, hk, rfl, hb⟩ := hrel
    by_cases hlt : k < n
    · obtain ⟨i, rfl⟩ : ∃ i, gk = i + 1 := ⟨gk - 1, by omega⟩
      obtain ⟨b1, o1, rfl, hl1, hc1⟩ := hr.at_ (by omega)
      obtain ⟨b2, o2, rfl, hl2, hc2⟩ := hr'.at_ (by omega)
      obtain ⟨x, hx⟩ : ∃ x, nth l k = x := ⟨_, rfl⟩
      have k1 := hc1 k hlt
      have k2 := hc2 k hlt
      rw [hx] at k1 k2
      clear hc1 hc2 hx
      go_wp2
      refine wp_fam_all (by kernel_rfl) (by kernel_rfl) (fun I hI' fw hf hback => ?_)
      have c1 : ∀ j, (fw j).cell? ⟨b1, o1 + k, none⟩ = some (.int .i64 x) := fun j => ((hb.trans ((hf j).mono hb.size)).cell (p := ⟨b1, o1 + k, none⟩) hl1).trans k1
      have c2 : ∀ j, (fw j).cell? ⟨b2, o2 + k, none⟩ = some (.int .i64 x) := fun j => ((hb.trans ((hf j).mono hb.size)).cell (p := ⟨b2, o2 + k, none⟩) hl2).trans k2
      repeat (go_big_quiet_step (fail))
      refine wpQuiet_nil ?_
      intro w6 hq
      have hb6 := hb.trans (hq.mono hb.size)
      clear c1 c2 hf hback hq hb
      go_wp2
      go_roundg i
      case measure => omega
      case rel => exact ⟨k + 1, by omega, by go_num, hb6⟩
    · obtain rfl : k = n := by omega
      go_wp2
      go_ret
      exact ⟨rfl, hb⟩

theorem bl_exists : ∀ (K : Nat) (v : Int), 0 ≤ v → v < tp K → ∃ L, L ≤ K ∧ Bl v L
  | 0, v, h0, h1 => ⟨0, Nat.le_refl _, .inl ⟨by have : v < 1 := h1; omega, rfl⟩⟩
  | K + 1, v, h0, h1 => by
    rcases Int.lt_or_le v (tp K) with h | h
    · obtain ⟨L, hL, hB⟩ := bl_exists K v h0 h
      exact ⟨L, by omega, hB⟩
    · exact ⟨K + 1, Nat.le_refl _, .inr ⟨by omega, h, h1⟩⟩
theorem digs_len (H : Int) : ∀ (f : Nat) (v : Int), (digs H f v).length ≤ f
  | 0, _ => Nat.le_refl _
  | f + 1, v => by
    unfold digs
    split
    · exact Nat.zero_le _
    · have := digs_len H f (nx H v)
      simp only [List.length_cons]
      omega
/-- A number's digits, their number, and what is left behind them. -/
theorem digs_shape {H : Int} {W : Nat} (hW : tp W = 2 * H) (hH : 2 ≤ H) (hW2 : 2 ≤ W) {l : List Int} {n : Nat} (hw : Words l) (hl : l.length = n) : ∃ m, digs H (64 * n) (num l) = tab m (fun k => dg H (nxs H k (num l))) ∧ nxs H m (num l) = 0 ∧ (∀ k, k < m → nxs H k (num l) ≠ 0) ∧ m ≤ 64 * n / W + 1 ∧ m ≤ 64 * n := by
  have hb := num_bounds hw
  rw [hl] at hb
  obtain ⟨L, hL, hB⟩ := bl_exists (64 * n) (num l) hb.1 (by rw [tp_wp]; exact hb.2)
  obtain ⟨q, hq⟩ : ∃ q, L / W = q := ⟨_, rfl⟩
  obtain ⟨e1, e2, e3, e4, e5⟩ := nxs_ends hW hH hW2 hB hq
  have hq2 : q ≤ 64 * n / W := by rw [← hq]; exact Nat.div_le_div_right hL
  by_cases h0 : nxs H q (num l) = 0
  · exact ⟨q, digs_tab H q (64 * n) _ e1 h0 (by omega), h0, e1, by omega, by omega⟩
  · have hz : nxs H (q + 1) (num l) = 0 := by rw [nxs]; exact (dg_small e2 e3 hH).2
    have hne : ∀ k, k < q + 1 → nxs H k (num l) ≠ 0 := fun k hk => by
      rcases Nat.lt_or_ge k q with h | h
      · exact e1 k h
      · obtain rfl : k = q := by omega
        exact h0
    have := e4 h0
    exact ⟨q + 1, digs_tab H (q + 1) (64 * n) _ hne hz (by omega), hz, hne, by omega, by omega⟩
theorem nx_le {H v : Int} (hH : 2 ≤ H) (hv : 0 ≤ v) : nx H v ≤ v := by
  have h1 := nx_eq (v := v) (show 0 < H by omega)
  have h2 := dg_bounds (v := v) (show 0 < H by omega)
  have h0 := nx_nonneg (H := H) (show 0 < H by omega) hv
  rcases Int.lt_or_le v (nx H v) with h | h
  · exfalso
    have h3 : 2 * H * (v + 1) ≤ 2 * H * nx H v := Int.mul_le_mul_of_nonneg_left (by omega) (by omega)
    rw [Int.mul_add, Int.mul_one] at h3
    have h4 : 4 * v ≤ 2 * H * v := Int.mul_le_mul_of_nonneg_right (by omega) hv
    omega
  · exact h
theorem nxs_bounds {H v : Int} (hH : 2 ≤ H) (hv : 0 ≤ v) : ∀ k, 0 ≤ nxs H k v ∧ nxs H k v ≤ v
  | 0 => ⟨hv, Int.le_refl _⟩
  | k + 1 => by
    have h := nxs_bounds hH hv k
    have h1 := nx_le hH h.1
    have h2 := nx_nonneg (H := H) (show 0 < H by omega) h.1
    exact ⟨h2, Int.le_trans h1 h.2⟩
theorem wd_take (N : Nat) (v : Int) : (wd (N + 1) v).take N = wd N v := by
  rw [wd_succ, List.take_append_of_le_length (by rw [wd_len]; omega), take_all (wd_len _ _)]

set_option maxRecDepth 100000 in
set_option maxHeartbeats 4000000 in
theorem windows_big (A : Option Addr) (n c : Nat) (l : List Int) (w : World) (v : Int) (hn : 12 < n) : Calls Try.prog 7 #[.slice A n c, .int .i64 v] w fun e w' => e = .returned (.bool true) ∧ Below w.heap.size w w' := by
  obtain ⟨S, hS⟩ : ∃ S, w.heap.size = S := ⟨_, rfl⟩
  have hsz0 : w.heap.size = S + 0 := hS
  have hb0 : Below S w w := Below.refl _ _
  have HSS : Keep (∀ x : World, Below S w x → S ≤ x.heap.size) := ⟨fun x hb => by have := hb.size; omega⟩
  rw [hS]
  go_enter Try.func7, Try.ntmps7
  go_wp2_with (first
    | (have hq0 := hb0
       clear hq0
       go_at_call 11
       refine (awake_c _).mono ?_
       rintro e w1 ⟨rfl, hq⟩
       have hb1 := hb0.trans (hq.mono (HSS.out _ hb0))
       clear hq hb0 ))
  go_ret
  exact ⟨rfl, hb1⟩

set_option maxRecDepth 100000 in
set_option maxHeartbeats 4000000 in
theorem windows_no_ (A : Option Addr) (n c : Nat) (l : List Int) (w : World) (v : Int) (hv : v < 2 ∨ 8 < v) (hn : n ≤ 12) : Calls Try.prog 7 #[.slice A n c, .int .i64 v] w fun e w' => e = .returned (.bool true) ∧ Below w.heap.size w w' := by
  have P1 : Keep (∀ x : World, _) := ⟨fun x => frWindows_no A n c v x hv⟩
  have P2 : Keep (∀ x : World, _) := ⟨fun x => refWindows_no A n c v x hv⟩
  have P3 : Keep (∀ x : World, _) := ⟨fun x => same_c 0 none 0 none 0 [] x Rd.nil_ Rd.nil_ (by omega)⟩
  obtain ⟨S, hS⟩ : ∃ S, w.heap.size = S := ⟨_, rfl⟩
  have hsz0 : w.heap.size = S + 0 := hS
  have hb0 : Below S w w := Below.refl _ _
  have HSS : Keep (∀ x : World, Below S w x → S ≤ x.heap.size) := ⟨fun x hb => by have := hb.size; omega⟩
  rw [hS]
  clear hv
  go_enter Try.func7, Try.ntmps7
  go_wp2_with (first
    | (have hq0 := hb3
       clear hq0
       go_at_call 32
       refine (P3.out _).mono ?_
       rintro e w4 ⟨rfl, hq⟩
       have hb4 := hb3.trans (hq.mono (HSS.out _ hb3))
       clear hq hb3 )
    | (have hq0 := hb2
       clear hq0
       go_at_call 31
       refine (P2.out _).mono ?_
       rintro e w3 ⟨rfl, hq⟩
       have hb3 := hb2.trans (hq.mono (HSS.out _ hb2))
       clear hq hb2 )
    | (have hq0 := hb1
       clear hq0
       go_at_call 30
       refine (P1.out _).mono ?_
       rintro e w2 ⟨rfl, hq⟩
       have hb2 := hb1.trans (hq.mono (HSS.out _ hb1))
       clear hq hb1 )
    | (have hq0 := hb0
       clear hq0
       go_at_call 11
       refine (awake_c _).mono ?_
       rintro e w1 ⟨rfl, hq⟩
       have hb1 := hb0.trans (hq.mono (HSS.out _ hb0))
       clear hq hb0 ))
  go_ret
  exact ⟨rfl, hb4⟩

set_option maxRecDepth 100000 in
set_option maxHeartbeats 4000000 in
theorem windows_2 (A : Option Addr) (n c : Nat) (l : List Int) (w : World) (hr : Rd w w.heap.size A n .u64 l) (hwl : Words l) (hn : n ≤ 12) : Calls Try.prog 7 #[.slice A n c, .int .i64 2] w fun e w' => e = .returned (.bool true) ∧ Below w.heap.size w w' := by
  obtain ⟨ds, hds⟩ : ∃ d, digs 2 (64 * n) (num l) = d := ⟨_, rfl⟩
  have hmb : ds.length ≤ 768 := by have := digs_len 2 (64 * n) (num l); rw [hds] at this; omega
  obtain ⟨m, hlen⟩ : ∃ m, ds.length = m := ⟨_, rfl⟩
  rw [hlen] at hmb
  have P1 : Keep (∀ y : World, Rd y y.heap.size A n .u64 l → Calls Try.prog 30 #[.slice A n c, .int .i64 2] y fun e y' => ∃ A' c', e = .returned (.tuple #[.slice A' m c', .int .i64 0]) ∧ Rd y' y'.heap.size A' m .i64 ds ∧ Below y.heap.size y y') := ⟨fun y h => by
    have h1 := frWindows_2 A n c l y.heap.size y h hwl (Nat.le_refl _) (by omega)
    rw [hds] at h1
    refine h1.mono ?_
    rintro e y' ⟨A', m', c', he, ho, hb⟩
    have hm' := ho.len
    rw [hlen] at hm'
    subst hm'
    exact ⟨A', c', he, ho.rd, hb⟩⟩
  have P2 : Keep (∀ y : World, Rd y y.heap.size A n .u64 l → Calls Try.prog 31 #[.slice A n c, .int .i64 2] y fun e y' => ∃ A' c', e = .returned (.tuple #[.slice A' m c', .int .i64 0]) ∧ Rd y' y'.heap.size A' m .i64 ds ∧ Below y.heap.size y y') := ⟨fun y h => by
    have h1 := refWindows_2 A n c l y.heap.size y h hwl (Nat.le_refl _) (by omega)
    rw [hds] at h1
    refine h1.mono ?_
    rintro e y' ⟨A', m', c', he, ho, hb⟩
    have hm' := ho.len
    rw [hlen] at hm'
    subst hm'
    exact ⟨A', c', he, ho.rd, hb⟩⟩
  have P3 : Keep (∀ (y : World) (A' : Option Addr) (c' : Nat) (A'' : Option Addr) (c'' : Nat), Rd y y.heap.size A' m .i64 ds → Rd y y.heap.size A'' m .i64 ds → Calls Try.prog 32 #[.slice A' m c', .slice A'' m c''] y fun e y' => e = .returned (.bool true) ∧ Below y.heap.size y y') := ⟨fun y A' c' A'' c'' h h' => same_c m A' c' A'' c'' ds y h h' (by omega)⟩
  obtain ⟨S, hS⟩ : ∃ S, w.heap.size = S := ⟨_, rfl⟩
  have hsz0 : w.heap.size = S + 0 := hS
  have hb0 : Below S w w := Below.refl _ _
  have HSS : Keep (∀ x : World, Below S w x → S ≤ x.heap.size) := ⟨fun x hb => by have := hb.size; omega⟩
  rw [hS]
  have HRD : Keep (∀ x : World, Below S w x → Rd x x.heap.size A n .u64 l) := ⟨fun x hb => (hr.keep hb (by omega)).more (by have := HSS.out _ hb; omega)⟩
  clear hds hlen hr hwl
  go_enter Try.func7, Try.ntmps7
  go_wp2_with (first
    | (have hq0 := hb3
       clear hq0
       go_at_call 32
       refine (P3.out _ _ _ _ _ xd3 xe3).mono ?_
       rintro e w4 ⟨rfl, hq⟩
       have xd4 := rd_here xd3 hq
       have xe4 := rd_here xe3 hq
       have hb4 := hb3.trans (hq.mono (HSS.out _ hb3))
       clear hq hb3 xd3 xe3)
    | (have hq0 := hb2
       clear hq0
       go_at_call 31
       refine (P2.out _ (HRD.out _ hb2)).mono ?_
       rintro e w3 ⟨A3, c3, rfl, hrd, hq⟩
       have xd3 := rd_here xd2 hq
       have hb3 := hb2.trans (hq.mono (HSS.out _ hb2))
       have xe3 := hrd
       clear hrd
       clear hq hb2 xd2)
    | (have hq0 := hb1
       clear hq0
       go_at_call 30
       refine (P1.out _ (HRD.out _ hb1)).mono ?_
       rintro e w2 ⟨A2, c2, rfl, hrd, hq⟩
       have hb2 := hb1.trans (hq.mono (HSS.out _ hb1))
       have xd2 := hrd
       clear hrd
       clear hq hb1 )
    | (have hq0 := hb0
       clear hq0
       go_at_call 11
       refine (awake_c _).mono ?_
       rintro e w1 ⟨rfl, hq⟩
       have hb1 := hb0.trans (hq.mono (HSS.out _ hb0))
       clear hq hb0 ))
  go_ret
  exact ⟨rfl, hb4⟩

set_option maxRecDepth 100000 in
set_option maxHeartbeats 4000000 in
theorem windows_3 (A : Option Addr) (n c : Nat) (l : List Int) (w : World) (hr : Rd w w.heap.size A n .u64 l) (hwl : Words l) (hn : n ≤ 12) : Calls Try.prog 7 #[.slice A n c, .int .i64 3] w fun e w' => e = .returned (.bool true) ∧ Below w.heap.size w w' := by
  obtain ⟨ds, hds⟩ : ∃ d, digs 4 (64 * n) (num l) = d := ⟨_, rfl⟩
  have hmb : ds.length ≤ 768 := by have := digs_len 4 (64 * n) (num l); rw [hds] at this; omega
  obtain ⟨m, hlen⟩ : ∃ m, ds.length = m := ⟨_, rfl⟩
  rw [hlen] at hmb
  have P1 : Keep (∀ y : World, Rd y y.heap.size A n .u64 l → Calls Try.prog 30 #[.slice A n c, .int .i64 3] y fun e y' => ∃ A' c', e = .returned (.tuple #[.slice A' m c', .int .i64 0]) ∧ Rd y' y'.heap.size A' m .i64 ds ∧ Below y.heap.size y y') := ⟨fun y h => by
    have h1 := frWindows_3 A n c l y.heap.size y h hwl (Nat.le_refl _) (by omega)
    rw [hds] at h1
    refine h1.mono ?_
    rintro e y' ⟨A', m', c', he, ho, hb⟩
    have hm' := ho.len
    rw [hlen] at hm'
    subst hm'
    exact ⟨A', c', he, ho.rd, hb⟩⟩
  have P2 : Keep (∀ y : World, Rd y y.heap.size A n .u64 l → Calls Try.prog 31 #[.slice A n c, .int .i64 3] y fun e y' => ∃ A' c', e = .returned (.tuple #[.slice A' m c', .int .i64 0]) ∧ Rd y' y'.heap.size A' m .i64 ds ∧ Below y.heap.size y y') := ⟨fun y h => by
    have h1 := refWindows_3 A n c l y.heap.size y h hwl (Nat.le_refl _) (by omega)
    rw [hds] at h1
    refine h1.mono ?_
    rintro e y' ⟨A', m', c', he, ho, hb⟩
    have hm' := ho.len
    rw [hlen] at hm'
    subst hm'
    exact ⟨A', c', he, ho.rd, hb⟩⟩
  have P3 : Keep (∀ (y : World) (A' : Option Addr) (c' : Nat) (A'' : Option Addr) (c'' : Nat), Rd y y.heap.size A' m .i64 ds → Rd y y.heap.size A'' m .i64 ds → Calls Try.prog 32 #[.slice A' m c', .slice A'' m c''] y fun e y' => e = .returned (.bool true) ∧ Below y.heap.size y y') := ⟨fun y A' c' A'' c'' h h' => same_c m A' c' A'' c'' ds y h h' (by omega)⟩
  obtain ⟨S, hS⟩ : ∃ S, w.heap.size = S := ⟨_, rfl⟩
  have hsz0 : w.heap.size = S + 0 := hS
  have hb0 : Below S w w := Below.refl _ _
  have HSS : Keep (∀ x : World, Below S w x → S ≤ x.heap.size) := ⟨fun x hb => by have := hb.size; omega⟩
  rw [hS]
  have HRD : Keep (∀ x : World, Below S w x → Rd x x.heap.size A n .u64 l) := ⟨fun x hb => (hr.keep hb (by omega)).more (by have := HSS.out _ hb; omega)⟩
  clear hds hlen hr hwl
  go_enter Try.func7, Try.ntmps7
  go_wp2_with (first
    | (have hq0 := hb3
       clear hq0
       go_at_call 32
       refine (P3.out _ _ _ _ _ xd3 xe3).mono ?_
       rintro e w4 ⟨rfl, hq⟩
       have xd4 := rd_here xd3 hq
       have xe4 := rd_here xe3 hq
       have hb4 := hb3.trans (hq.mono (HSS.out _ hb3))
       clear hq hb3 xd3 xe3)
    | (have hq0 := hb2
       clear hq0
       go_at_call 31
       refine (P2.out _ (HRD.out _ hb2)).mono ?_
       rintro e w3 ⟨A3, c3, rfl, hrd, hq⟩
       have xd3 := rd_here xd2 hq
       have hb3 := hb2.trans (hq.mono (HSS.out _ hb2))
       have xe3 := hrd
       clear hrd
       clear hq hb2 xd2)
    | (have hq0 := hb1
       clear hq0
       go_at_call 30
       refine (P1.out _ (HRD.out _ hb1)).mono ?_
       rintro e w2 ⟨A2, c2, rfl, hrd, hq⟩
       have hb2 := hb1.trans (hq.mono (HSS.out _ hb1))
       have xd2 := hrd
       clear hrd
       clear hq hb1 )
    | (have hq0 := hb0
       clear hq0
       go_at_call 11
       refine (awake_c _).mono ?_
       rintro e w1 ⟨rfl, hq⟩
       have hb1 := hb0.trans (hq.mono (HSS.out _ hb0))
       clear hq hb0 ))
  go_ret
  exact ⟨rfl, hb4⟩

set_option maxRecDepth 100000 in
set_option maxHeartbeats 4000000 in
theorem windows_4 (A : Option Addr) (n c : Nat) (l : List Int) (w : World) (hr : Rd w w.heap.size A n .u64 l) (hwl : Words l) (hn : n ≤ 12) : Calls Try.prog 7 #[.slice A n c, .int .i64 4] w fun e w' => e = .returned (.bool true) ∧ Below w.heap.size w w' := by
  obtain ⟨ds, hds⟩ : ∃ d, digs 8 (64 * n) (num l) = d := ⟨_, rfl⟩
  have hmb : ds.length ≤ 768 := by have := digs_len 8 (64 * n) (num l); rw [hds] at this; omega
  obtain ⟨m, hlen⟩ : ∃ m, ds.length = m := ⟨_, rfl⟩
  rw [hlen] at hmb
  have P1 : Keep (∀ y : World, Rd y y.heap.size A n .u64 l → Calls Try.prog 30 #[.slice A n c, .int .i64 4] y fun e y' => ∃ A' c', e = .returned (.tuple #[.slice A' m c', .int .i64 0]) ∧ Rd y' y'.heap.size A' m .i64 ds ∧ Below y.heap.size y y') := ⟨fun y h => by
    have h1 := frWindows_4 A n c l y.heap.size y h hwl (Nat.le_refl _) (by omega)
    rw [hds] at h1
    refine h1.mono ?_
    rintro e y' ⟨A', m', c', he, ho, hb⟩
    have hm' := ho.len
    rw [hlen] at hm'
    subst hm'
    exact ⟨A', c', he, ho.rd, hb⟩⟩
  have P2 : Keep (∀ y : World, Rd y y.heap.size A n .u64 l → Calls Try.prog 31 #[.slice A n c, .int .i64 4] y fun e y' => ∃ A' c', e = .returned (.tuple #[.slice A' m c', .int .i64 0]) ∧ Rd y' y'.heap.size A' m .i64 ds ∧ Below y.heap.size y y') := ⟨fun y h => by
    have h1 := refWindows_4 A n c l y.heap.size y h hwl (Nat.le_refl _) (by omega)
    rw [hds] at h1
    refine h1.mono ?_
    rintro e y' ⟨A', m', c', he, ho, hb⟩
    have hm' := ho.len
    rw [hlen] at hm'
    subst hm'
    exact ⟨A', c', he, ho.rd, hb⟩⟩
  have P3 : Keep (∀ (y : World) (A' : Option Addr) (c' : Nat) (A'' : Option Addr) (c'' : Nat), Rd y y.heap.size A' m .i64 ds → Rd y y.heap.size A'' m .i64 ds → Calls Try.prog 32 #[.slice A' m c', .slice A'' m c''] y fun e y' => e = .returned (.bool true) ∧ Below y.heap.size y y') := ⟨fun y A' c' A'' c'' h h' => same_c m A' c' A'' c'' ds y h h' (by omega)⟩
  obtain ⟨S, hS⟩ : ∃ S, w.heap.size = S := ⟨_, rfl⟩
  have hsz0 : w.heap.size = S + 0 := hS
  have hb0 : Below S w w := Below.refl _ _
  have HSS : Keep (∀ x : World, Below S w x → S ≤ x.heap.size) := ⟨fun x hb => by have := hb.size; omega⟩
  rw [hS]
  have HRD : Keep (∀ x : World, Below S w x → Rd x x.heap.size A n .u64 l) := ⟨fun x hb => (hr.keep hb (by omega)).more (by have := HSS.out _ hb; omega)⟩
  clear hds hlen hr hwl
  go_enter Try.func7, Try.ntmps7
  go_wp2_with (first
    | (have hq0 := hb3
       clear hq0
       go_at_call 32
       refine (P3.out _ _ _ _ _ xd3 xe3).mono ?_
       rintro e w4 ⟨rfl, hq⟩
       have xd4 := rd_here xd3 hq
       have xe4 := rd_here xe3 hq
       have hb4 := hb3.trans (hq.mono (HSS.out _ hb3))
       clear hq hb3 xd3 xe3)
    | (have hq0 := hb2
       clear hq0
       go_at_call 31
       refine (P2.out _ (HRD.out _ hb2)).mono ?_
       rintro e w3 ⟨A3, c3, rfl, hrd, hq⟩
       have xd3 := rd_here xd2 hq
       have hb3 := hb2.trans (hq.mono (HSS.out _ hb2))
       have xe3 := hrd
       clear hrd
       clear hq hb2 xd2)
    | (have hq0 := hb1
       clear hq0
       go_at_call 30
       refine (P1.out _ (HRD.out _ hb1)).mono ?_
       rintro e w2 ⟨A2, c2, rfl, hrd, hq⟩
       have hb2 := hb1.trans (hq.mono (HSS.out _ hb1))
       have xd2 := hrd
       clear hrd
       clear hq hb1 )
    | (have hq0 := hb0
       clear hq0
       go_at_call 11
       refine (awake_c _).mono ?_
       rintro e w1 ⟨rfl, hq⟩
       have hb1 := hb0.trans (hq.mono (HSS.out _ hb0))
       clear hq hb0 ))
  go_ret
  exact ⟨rfl, hb4⟩

set_option maxRecDepth 100000 in
set_option maxHeartbeats 4000000 in
theorem windows_5 (A : Option Addr) (n c : Nat) (l : List Int) (w : World) (hr : Rd w w.heap.size A n .u64 l) (hwl : Words l) (hn : n ≤ 12) : Calls Try.prog 7 #[.slice A n c, .int .i64 5] w fun e w' => e = .returned (.bool true) ∧ Below w.heap.size w w' := by
  obtain ⟨ds, hds⟩ : ∃ d, digs 16 (64 * n) (num l) = d := ⟨_, rfl⟩
  have hmb : ds.length ≤ 768 := by have := digs_len 16 (64 * n) (num l); rw [hds] at this; omega
  obtain ⟨m, hlen⟩ : ∃ m, ds.length = m := ⟨_, rfl⟩
  rw [hlen] at hmb
  have P1 : Keep (∀ y : World, Rd y y.heap.size A n .u64 l → Calls Try.prog 30 #[.slice A n c, .int .i64 5] y fun e y' => ∃ A' c', e = .returned (.tuple #[.slice A' m c', .int .i64 0]) ∧ Rd y' y'.heap.size A' m .i64 ds ∧ Below y.heap.size y y') := ⟨fun y h => by
    have h1 := frWindows_5 A n c l y.heap.size y h hwl (Nat.le_refl _) (by omega)
    rw [hds] at h1
    refine h1.mono ?_
    rintro e y' ⟨A', m', c', he, ho, hb⟩
    have hm' := ho.len
    rw [hlen] at hm'
    subst hm'
    exact ⟨A', c', he, ho.rd, hb⟩⟩
  have P2 : Keep (∀ y : World, Rd y y.heap.size A n .u64 l → Calls Try.prog 31 #[.slice A n c, .int .i64 5] y fun e y' => ∃ A' c', e = .returned (.tuple #[.slice A' m c', .int .i64 0]) ∧ Rd y' y'.heap.size A' m .i64 ds ∧ Below y.heap.size y y') := ⟨fun y h => by
    have h1 := refWindows_5 A n c l y.heap.size y h hwl (Nat.le_refl _) (by omega)
    rw [hds] at h1
    refine h1.mono ?_
    rintro e y' ⟨A', m', c', he, ho, hb⟩
    have hm' := ho.len
    rw [hlen] at hm'
    subst hm'
    exact ⟨A', c', he, ho.rd, hb⟩⟩
  have P3 : Keep (∀ (y : World) (A' : Option Addr) (c' : Nat) (A'' : Option Addr) (c'' : Nat), Rd y y.heap.size A' m .i64 ds → Rd y y.heap.size A'' m .i64 ds → Calls Try.prog 32 #[.slice A' m c', .slice A'' m c''] y fun e y' => e = .returned (.bool true) ∧ Below y.heap.size y y') := ⟨fun y A' c' A'' c'' h h' => same_c m A' c' A'' c'' ds y h h' (by omega)⟩
  obtain ⟨S, hS⟩ : ∃ S, w.heap.size = S := ⟨_, rfl⟩
  have hsz0 : w.heap.size = S + 0 := hS
  have hb0 : Below S w w := Below.refl _ _
  have HSS : Keep (∀ x : World, Below S w x → S ≤ x.heap.size) := ⟨fun x hb => by have := hb.size; omega⟩
  rw [hS]
  have HRD : Keep (∀ x : World, Below S w x → Rd x x.heap.size A n .u64 l) := ⟨fun x hb => (hr.keep hb (by omega)).more (by have := HSS.out _ hb; omega)⟩
  clear hds hlen hr hwl
  go_enter Try.func7, Try.ntmps7
  go_wp2_with (first
    | (have hq0 := hb3
       clear hq0
       go_at_call 32
       refine (P3.out _ _ _ _ _ xd3 xe3).mono ?_
       rintro e w4 ⟨rfl, hq⟩
       have xd4 := rd_here xd3 hq
       have xe4 := rd_here xe3 hq
       have hb4 := hb3.trans (hq.mono (HSS.out _ hb3))
       clear hq hb3 xd3 xe3)
    | (have hq0 := hb2
       clear hq0
       go_at_call 31
       refine (P2.out _ (HRD.out _ hb2)).mono ?_
       rintro e w3 ⟨A3, c3, rfl, hrd, hq⟩
       have xd3 := rd_here xd2 hq
       have hb3 := hb2.trans (hq.mono (HSS.out _ hb2))
       have xe3 := hrd
       clear hrd
       clear hq hb2 xd2)
    | (have hq0 := hb1
       clear hq0
       go_at_call 30
       refine (P1.out _ (HRD.out _ hb1)).mono ?_
       rintro e w2 ⟨A2, c2, rfl, hrd, hq⟩
       have hb2 := hb1.trans (hq.mono (HSS.out _ hb1))
       have xd2 := hrd
       clear hrd
       clear hq hb1 )
    | (have hq0 := hb0
       clear hq0
       go_at_call 11
       refine (awake_c _).mono ?_
       rintro e w1 ⟨rfl, hq⟩
       have hb1 := hb0.trans (hq.mono (HSS.out _ hb0))
       clear hq hb0 ))
  go_ret
  exact ⟨rfl, hb4⟩

set_option maxRecDepth 100000 in
set_option maxHeartbeats 4000000 in
theorem windows_6 (A : Option Addr) (n c : Nat) (l : List Int) (w : World) (hr : Rd w w.heap.size A n .u64 l) (hwl : Words l) (hn : n ≤ 12) : Calls Try.prog 7 #[.slice A n c, .int .i64 6] w fun e w' => e = .returned (.bool true) ∧ Below w.heap.size w w' := by
  obtain ⟨ds, hds⟩ : ∃ d, digs 32 (64 * n) (num l) = d := ⟨_, rfl⟩
  have hmb : ds.length ≤ 768 := by have := digs_len 32 (64 * n) (num l); rw [hds] at this; omega
  obtain ⟨m, hlen⟩ : ∃ m, ds.length = m := ⟨_, rfl⟩
  rw [hlen] at hmb
  have P1 : Keep (∀ y : World, Rd y y.heap.size A n .u64 l → Calls Try.prog 30 #[.slice A n c, .int .i64 6] y fun e y' => ∃ A' c', e = .returned (.tuple #[.slice A' m c', .int .i64 0]) ∧ Rd y' y'.heap.size A' m .i64 ds ∧ Below y.heap.size y y') := ⟨fun y h => by
    have h1 := frWindows_6 A n c l y.heap.size y h hwl (Nat.le_refl _) (by omega)
    rw [hds] at h1
    refine h1.mono ?_
    rintro e y' ⟨A', m', c', he, ho, hb⟩
    have hm' := ho.len
    rw [hlen] at hm'
    subst hm'
    exact ⟨A', c', he, ho.rd, hb⟩⟩
  have P2 : Keep (∀ y : World, Rd y y.heap.size A n .u64 l → Calls Try.prog 31 #[.slice A n c, .int .i64 6] y fun e y' => ∃ A' c', e = .returned (.tuple #[.slice A' m c', .int .i64 0]) ∧ Rd y' y'.heap.size A' m .i64 ds ∧ Below y.heap.size y y') := ⟨fun y h => by
    have h1 := refWindows_6 A n c l y.heap.size y h hwl (Nat.le_refl _) (by omega)
    rw [hds] at h1
    refine h1.mono ?_
    rintro e y' ⟨A', m', c', he, ho, hb⟩
    have hm' := ho.len
    rw [hlen] at hm'
    subst hm'
    exact ⟨A', c', he, ho.rd, hb⟩⟩
  have P3 : Keep (∀ (y : World) (A' : Option Addr) (c' : Nat) (A'' : Option Addr) (c'' : Nat), Rd y y.heap.size A' m .i64 ds → Rd y y.heap.size A'' m .i64 ds → Calls Try.prog 32 #[.slice A' m c', .slice A'' m c''] y fun e y' => e = .returned (.bool true) ∧ Below y.heap.size y y') := ⟨fun y A' c' A'' c'' h h' => same_c m A' c' A'' c'' ds y h h' (by omega)⟩
  obtain ⟨S, hS⟩ : ∃ S, w.heap.size = S := ⟨_, rfl⟩
  have hsz0 : w.heap.size = S + 0 := hS
  have hb0 : Below S w w := Below.refl _ _
  have HSS : Keep (∀ x : World, Below S w x → S ≤ x.heap.size) := ⟨fun x hb => by have := hb.size; omega⟩
  rw [hS]
  have HRD : Keep (∀ x : World, Below S w x → Rd x x.heap.size A n .u64 l) := ⟨fun x hb => (hr.keep hb (by omega)).more (by have := HSS.out _ hb; omega)⟩
  clear hds hlen hr hwl
  go_enter Try.func7, Try.ntmps7
  go_wp2_with (first
    | (have hq0 := hb3
       clear hq0
       go_at_call 32
       refine (P3.out _ _ _ _ _ xd3 xe3).mono ?_
       rintro e w4 ⟨rfl, hq⟩
       have xd4 := rd_here xd3 hq
       have xe4 := rd_here xe3 hq
       have hb4 := hb3.trans (hq.mono (HSS.out _ hb3))
       clear hq hb3 xd3 xe3)
    | (have hq0 := hb2
       clear hq0
       go_at_call 31
       refine (P2.out _ (HRD.out _ hb2)).mono ?_
       rintro e w3 ⟨A3, c3, rfl, hrd, hq⟩
       have xd3 := rd_here xd2 hq
       have hb3 := hb2.trans (hq.mono (HSS.out _ hb2))
       have xe3 := hrd
       clear hrd
       clear hq hb2 xd2)
    | (have hq0 := hb1
       clear hq0
       go_at_call 30
       refine (P1.out _ (HRD.out _ hb1)).mono ?_
       rintro e w2 ⟨A2, c2, rfl, hrd, hq⟩
       have hb2 := hb1.trans (hq.mono (HSS.out _ hb1))
       have xd2 := hrd
       clear hrd
       clear hq hb1 )
    | (have hq0 := hb0
       clear hq0
       go_at_call 11
       refine (awake_c _).mono ?_
       rintro e w1 ⟨rfl, hq⟩
       have hb1 := hb0.trans (hq.mono (HSS.out _ hb0))
       clear hq hb0 ))
  go_ret
  exact ⟨rfl, hb4⟩

set_option maxRecDepth 100000 in
set_option maxHeartbeats 4000000 in
theorem windows_7 (A : Option Addr) (n c : Nat) (l : List Int) (w : World) (hr : Rd w w.heap.size A n .u64 l) (hwl : Words l) (hn : n ≤ 12) : Calls Try.prog 7 #[.slice A n c, .int .i64 7] w fun e w' => e = .returned (.bool true) ∧ Below w.heap.size w w' := by
  obtain ⟨ds, hds⟩ : ∃ d, digs 64 (64 * n) (num l) = d := ⟨_, rfl⟩
  have hmb : ds.length ≤ 768 := by have := digs_len 64 (64 * n) (num l); rw [hds] at this; omega
  obtain ⟨m, hlen⟩ : ∃ m, ds.length = m := ⟨_, rfl⟩
  rw [hlen] at hmb
  have P1 : Keep (∀ y : World, Rd y y.heap.size A n .u64 l → Calls Try.prog 30 #[.slice A n c, .int .i64 7] y fun e y' => ∃ A' c', e = .returned (.tuple #[.slice A' m c', .int .i64 0]) ∧ Rd y' y'.heap.size A' m .i64 ds ∧ Below y.heap.size y y') := ⟨fun y h => by
    have h1 := frWindows_7 A n c l y.heap.size y h hwl (Nat.le_refl _) (by omega)
    rw [hds] at h1
    refine h1.mono ?_
    rintro e y' ⟨A', m', c', he, ho, hb⟩
    have hm' := ho.len
    rw [hlen] at hm'
    subst hm'
    exact ⟨A', c', he, ho.rd, hb⟩⟩
  have P2 : Keep (∀ y : World, Rd y y.heap.size A n .u64 l → Calls Try.prog 31 #[.slice A n c, .int .i64 7] y fun e y' => ∃ A' c', e = .returned (.tuple #[.slice A' m c', .int .i64 0]) ∧ Rd y' y'.heap.size A' m .i64 ds ∧ Below y.heap.size y y') := ⟨fun y h => by
    have h1 := refWindows_7 A n c l y.heap.size y h hwl (Nat.le_refl _) (by omega)
    rw [hds] at h1
    refine h1.mono ?_
    rintro e y' ⟨A', m', c', he, ho, hb⟩
    have hm' := ho.len
    rw [hlen] at hm'
    subst hm'
    exact ⟨A', c', he, ho.rd, hb⟩⟩
  have P3 : Keep (∀ (y : World) (A' : Option Addr) (c' : Nat) (A'' : Option Addr) (c'' : Nat), Rd y y.heap.size A' m .i64 ds → Rd y y.heap.size A'' m .i64 ds → Calls Try.prog 32 #[.slice A' m c', .slice A'' m c''] y fun e y' => e = .returned (.bool true) ∧ Below y.heap.size y y') := ⟨fun y A' c' A'' c'' h h' => same_c m A' c' A'' c'' ds y h h' (by omega)⟩
  obtain ⟨S, hS⟩ : ∃ S, w.heap.size = S := ⟨_, rfl⟩
  have hsz0 : w.heap.size = S + 0 := hS
  have hb0 : Below S w w := Below.refl _ _
  have HSS : Keep (∀ x : World, Below S w x → S ≤ x.heap.size) := ⟨fun x hb => by have := hb.size; omega⟩
  rw [hS]
  have HRD : Keep (∀ x : World, Below S w x → Rd x x.heap.size A n .u64 l) := ⟨fun x hb => (hr.keep hb (by omega)).more (by have := HSS.out _ hb; omega)⟩
  clear hds hlen hr hwl
  go_enter Try.func7, Try.ntmps7
  go_wp2_with (first
    | (have hq0 := hb3
       clear hq0
       go_at_call 32
       refine (P3.out _ _ _ _ _ xd3 xe3).mono ?_
       rintro e w4 ⟨rfl, hq⟩
       have xd4 := rd_here xd3 hq
       have xe4 := rd_here xe3 hq
       have hb4 := hb3.trans (hq.mono (HSS.out _ hb3))
       clear hq hb3 xd3 xe3)
    | (have hq0 := hb2
       clear hq0
       go_at_call 31
       refine (P2.out _ (HRD.out _ hb2)).mono ?_
       rintro e w3 ⟨A3, c3, rfl, hrd, hq⟩
       have xd3 := rd_here xd2 hq
       have hb3 := hb2.trans (hq.mono (HSS.out _ hb2))
       have xe3 := hrd
       clear hrd
       clear hq hb2 xd2)
    | (have hq0 := hb1
       clear hq0
       go_at_call 30
       refine (P1.out _ (HRD.out _ hb1)).mono ?_
       rintro e w2 ⟨A2, c2, rfl, hrd, hq⟩
       have hb2 := hb1.trans (hq.mono (HSS.out _ hb1))
       have xd2 := hrd
       clear hrd
       clear hq hb1 )
    | (have hq0 := hb0
       clear hq0
       go_at_call 11
       refine (awake_c _).mono ?_
       rintro e w1 ⟨rfl, hq⟩
       have hb1 := hb0.trans (hq.mono (HSS.out _ hb0))
       clear hq hb0 ))
  go_ret
  exact ⟨rfl, hb4⟩

set_option maxRecDepth 100000 in
set_option maxHeartbeats 4000000 in
theorem windows_8 (A : Option Addr) (n c : Nat) (l : List Int) (w : World) (hr : Rd w w.heap.size A n .u64 l) (hwl : Words l) (hn : n ≤ 12) : Calls Try.prog 7 #[.slice A n c, .int .i64 8] w fun e w' => e = .returned (.bool true) ∧ Below w.heap.size w w' := by
  obtain ⟨ds, hds⟩ : ∃ d, digs 128 (64 * n) (num l) = d := ⟨_, rfl⟩
  have hmb : ds.length ≤ 768 := by have := digs_len 128 (64 * n) (num l); rw [hds] at this; omega
  obtain ⟨m, hlen⟩ : ∃ m, ds.length = m := ⟨_, rfl⟩
  rw [hlen] at hmb
  have P1 : Keep (∀ y : World, Rd y y.heap.size A n .u64 l → Calls Try.prog 30 #[.slice A n c, .int .i64 8] y fun e y' => ∃ A' c', e = .returned (.tuple #[.slice A' m c', .int .i64 0]) ∧ Rd y' y'.heap.size A' m .i64 ds ∧ Below y.heap.size y y') := ⟨fun y h => by
    have h1 := frWindows_8 A n c l y.heap.size y h hwl (Nat.le_refl _) (by omega)
    rw [hds] at h1
    refine h1.mono ?_
    rintro e y' ⟨A', m', c', he, ho, hb⟩
    have hm' := ho.len
    rw [hlen] at hm'
    subst hm'
    exact ⟨A', c', he, ho.rd, hb⟩⟩
  have P2 : Keep (∀ y : World, Rd y y.heap.size A n .u64 l → Calls Try.prog 31 #[.slice A n c, .int .i64 8] y fun e y' => ∃ A' c', e = .returned (.tuple #[.slice A' m c', .int .i64 0]) ∧ Rd y' y'.heap.size A' m .i64 ds ∧ Below y.heap.size y y') := ⟨fun y h => by
    have h1 := refWindows_8 A n c l y.heap.size y h hwl (Nat.le_refl _) (by omega)
    rw [hds] at h1
    refine h1.mono ?_
    rintro e y' ⟨A', m', c', he, ho, hb⟩
    have hm' := ho.len
    rw [hlen] at hm'
    subst hm'
    exact ⟨A', c', he, ho.rd, hb⟩⟩
  have P3 : Keep (∀ (y : World) (A' : Option Addr) (c' : Nat) (A'' : Option Addr) (c'' : Nat), Rd y y.heap.size A' m .i64 ds → Rd y y.heap.size A'' m .i64 ds → Calls Try.prog 32 #[.slice A' m c', .slice A'' m c''] y fun e y' => e = .returned (.bool true) ∧ Below y.heap.size y y') := ⟨fun y A' c' A'' c'' h h' => same_c m A' c' A'' c'' ds y h h' (by omega)⟩
  obtain ⟨S, hS⟩ : ∃ S, w.heap.size = S := ⟨_, rfl⟩
  have hsz0 : w.heap.size = S + 0 := hS
  have hb0 : Below S w w := Below.refl _ _
  have HSS : Keep (∀ x : World, Below S w x → S ≤ x.heap.size) := ⟨fun x hb => by have := hb.size; omega⟩
  rw [hS]
  have HRD : Keep (∀ x : World, Below S w x → Rd x x.heap.size A n .u64 l) := ⟨fun x hb => (hr.keep hb (by omega)).more (by have := HSS.out _ hb; omega)⟩
  clear hds hlen hr hwl
  go_enter Try.func7, Try.ntmps7
  go_wp2_with (first
    | (have hq0 := hb3
       clear hq0
       go_at_call 32
       refine (P3.out _ _ _ _ _ xd3 xe3).mono ?_
       rintro e w4 ⟨rfl, hq⟩
       have xd4 := rd_here xd3 hq
       have xe4 := rd_here xe3 hq
       have hb4 := hb3.trans (hq.mono (HSS.out _ hb3))
       clear hq hb3 xd3 xe3)
    | (have hq0 := hb2
       clear hq0
       go_at_call 31
       refine (P2.out _ (HRD.out _ hb2)).mono ?_
       rintro e w3 ⟨A3, c3, rfl, hrd, hq⟩
       have xd3 := rd_here xd2 hq
       have hb3 := hb2.trans (hq.mono (HSS.out _ hb2))
       have xe3 := hrd
       clear hrd
       clear hq hb2 xd2)
    | (have hq0 := hb1
       clear hq0
       go_at_call 30
       refine (P1.out _ (HRD.out _ hb1)).mono ?_
       rintro e w2 ⟨A2, c2, rfl, hrd, hq⟩
       have hb2 := hb1.trans (hq.mono (HSS.out _ hb1))
       have xd2 := hrd
       clear hrd
       clear hq hb1 )
    | (have hq0 := hb0
       clear hq0
       go_at_call 11
       refine (awake_c _).mono ?_
       rintro e w1 ⟨rfl, hq⟩
       have hb1 := hb0.trans (hq.mono (HSS.out _ hb0))
       clear hq hb0 ))
  go_ret
  exact ⟨rfl, hb4⟩

theorem windows_w (A : Option Addr) (n c : Nat) (l : List Int) (v : Int) (w : World) (h : Rd w w.heap.size A n .u64 l ∧ Words l) : Calls Try.prog 7 #[.slice A n c, .int .i64 v] w fun e w' => e = .returned (.bool true) ∧ Below w.heap.size w w' := by
  by_cases hn : n ≤ 12
  · by_cases hv : v < 2 ∨ 8 < v
    · exact windows_no_ A n c l w v hv hn
    · rcases (show v = 2 ∨ v = 3 ∨ v = 4 ∨ v = 5 ∨ v = 6 ∨ v = 7 ∨ v = 8 by omega) with rfl | rfl | rfl | rfl | rfl | rfl | rfl
      · exact windows_2 A n c l w h.1 h.2 hn
      · exact windows_3 A n c l w h.1 h.2 hn
      · exact windows_4 A n c l w h.1 h.2 hn
      · exact windows_5 A n c l w h.1 h.2 hn
      · exact windows_6 A n c l w h.1 h.2 hn
      · exact windows_7 A n c l w h.1 h.2 hn
      · exact windows_8 A n c l w h.1 h.2 hn
  · exact windows_big A n c l w v (by omega)

end Go.Proofs.Ythaoebamnlmfpaa.Fr
