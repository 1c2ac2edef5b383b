/-
  Own text. The contracts of layer 6's landed package, on: Windows.
-/
import Derived.Test.YthaoebamnlmfpaaFrOwn3
import Derived.Test.YthaoebamnlmfpaaFrRef8
import Derived.Deep.LoopGhost
namespace Go.Proofs.Ythaoebamnlmfpaa.Fr
set_option linter.unusedVariables false
set_option linter.unusedSimpArgs false
open Go Go.RowKit Go.Proofs.Ythaoebamnlmfpaa.Num Go.Proofs.Ythaoebamnlmfpaa.Reg Go.Proofs.Ythaoebamnlmfpaa.Base Go.Proofs.Ythaoebamnlmfpaa.Limb Go.Proofs.Ythaoebamnlmfpaa.Bits

/-- What is left of a number behind k digits. -/
def nxs (H : Int) : Nat → Int → Int
  | 0, v => v
  | k + 1, v => nx H (nxs H k v)
theorem nxs_shift (H : Int) : ∀ (k : Nat) (v : Int), nxs H k (nx H v) = nxs H (k + 1) v
  | 0, _ => rfl
  | k + 1, v => by rw [nxs, nxs_shift H k v]; rfl
theorem digs_tab (H : Int) : ∀ (m f : Nat) (v : Int), (∀ k, k < m → nxs H k v ≠ 0) → nxs H m v = 0 → m ≤ f → digs H f v = tab m (fun k => dg H (nxs H k v))
  | 0, f, v, _, h0, _ => by
    have e : v = 0 := h0
    rw [e, digs_zero]
    rfl
  | m + 1, 0, v, _, _, hf => absurd hf (by omega)
  | m + 1, f + 1, v, h, h0, hf => by
    rw [digs_step (show v ≠ 0 from h 0 (by omega)), digs_tab H m f (nx H v) (fun k hk => by rw [nxs_shift]; exact h (k + 1) (by omega)) (by rw [nxs_shift]; exact h0) (by omega)]
    rw [tab, tab, List.range_succ_eq_map, List.map_cons, List.map_map]
    congr 1
    apply List.map_congr_left
    intro k _
    show dg H (nxs H k (nx H v)) = dg H (nxs H (k + 1) v)
    rw [nxs_shift]
theorem dg_step {H V cy d : Int} (hH : 2 ≤ H) (hc0 : 0 ≤ cy) (hc1 : cy ≤ 1) (hd : V % (2 * H) = d) : (H < d + cy → dg H (V + cy) = d + cy - 2 * H ∧ nx H (V + cy) = V / (2 * H) + 1) ∧ (¬ H < d + cy → dg H (V + cy) = d + cy ∧ nx H (V + cy) = V / (2 * H) + 0) := by
  have h1 := Int.mul_ediv_add_emod V (2 * H)
  have b0 := Int.emod_nonneg V (show 2 * H ≠ 0 by omega)
  have b1 := Int.emod_lt_of_pos V (show 0 < 2 * H by omega)
  rw [hd] at h1 b0 b1
  obtain ⟨Q, hQ⟩ : ∃ Q, V / (2 * H) = Q := ⟨_, rfl⟩
  rw [hQ] at h1 ⊢
  have hpos : 2 * H ≠ 0 := by omega
  have key : ∀ x e : Int, V + cy = x + 2 * H * e → (V + cy - x) / (2 * H) = e := fun x e h => by
    rw [show V + cy - x = 2 * H * e by omega, Int.mul_ediv_cancel_left _ hpos]
  refine ⟨fun hh => ?_, fun hh => ?_⟩
  · by_cases he : d + cy = 2 * H
    · have hm : (V + cy) % (2 * H) = 0 := by
        rw [show V + cy = 0 + 2 * H * (Q + 1) by rw [Int.mul_add, Int.mul_one]; omega, Int.add_mul_emod_self_left]
        rfl
      have hg : dg H (V + cy) = d + cy - 2 * H := by rw [dg, hm, if_neg (by omega)]; omega
      refine ⟨hg, ?_⟩
      rw [nx, hg]
      exact key _ _ (by rw [Int.mul_add, Int.mul_one]; omega)
    · have hm : (V + cy) % (2 * H) = d + cy := by
        rw [show V + cy = d + cy + 2 * H * Q by omega, Int.add_mul_emod_self_left, Int.emod_eq_of_lt (by omega) (by omega)]
      have hg : dg H (V + cy) = d + cy - 2 * H := by rw [dg, hm, if_pos hh]
      refine ⟨hg, ?_⟩
      rw [nx, hg]
      exact key _ _ (by rw [Int.mul_add, Int.mul_one]; omega)
  · have hm : (V + cy) % (2 * H) = d + cy := by
      rw [show V + cy = d + cy + 2 * H * Q by omega, Int.add_mul_emod_self_left, Int.emod_eq_of_lt (by omega) (by omega)]
    have hg : dg H (V + cy) = d + cy := by rw [dg, hm, if_neg hh]
    refine ⟨hg, ?_⟩
    rw [nx, hg]
    exact key _ _ (by rw [Int.add_zero]; omega)
theorem nxs_form {H : Int} {W : Nat} (hW : tp W = 2 * H) (hH : 2 ≤ H) (v : Int) : ∀ k, ∃ cy, 0 ≤ cy ∧ cy ≤ 1 ∧ nxs H k v = v / tp (k * W) + cy
  | 0 => ⟨0, by omega, by omega, by rw [Nat.zero_mul, tp_zero, Int.ediv_one, Int.add_zero]; rfl⟩
  | k + 1 => by
    obtain ⟨cy, h0, h1, h2⟩ := nxs_form hW hH v k
    have hs := dg_step (V := v / tp (k * W)) hH h0 h1 rfl
    have e : v / tp ((k + 1) * W) = v / tp (k * W) / (2 * H) := by rw [← hW, div_div (tp_pos _), ← tp_add]; congr 2; rw [Nat.succ_mul]
    by_cases hh : H < v / tp (k * W) % (2 * H) + cy
    · exact ⟨1, by omega, by omega, by rw [nxs, h2, (hs.1 hh).2, e]⟩
    · exact ⟨0, by omega, by omega, by rw [nxs, h2, (hs.2 hh).2, e]⟩
theorem nxs_step {H : Int} {W : Nat} (hW : tp W = 2 * H) (hH : 2 ≤ H) {v cy d : Int} {k : Nat} (h0 : 0 ≤ cy) (h1 : cy ≤ 1) (h2 : nxs H k v = v / tp (k * W) + cy) (hd : v / tp (k * W) % (2 * H) = d) :
    (H < d + cy → dg H (nxs H k v) = d + cy - 2 * H ∧ nxs H (k + 1) v = v / tp ((k + 1) * W) + 1) ∧ (¬ H < d + cy → dg H (nxs H k v) = d + cy ∧ nxs H (k + 1) v = v / tp ((k + 1) * W) + 0) := by
  have hs := dg_step hH h0 h1 hd
  have e : v / tp ((k + 1) * W) = v / tp (k * W) / (2 * H) := by rw [← hW, div_div (tp_pos _), ← tp_add]; congr 2; rw [Nat.succ_mul]
  rw [nxs, h2, e]
  exact hs
theorem tp_mono {i j : Nat} (h : i ≤ j) : tp i ≤ tp j := by
  obtain ⟨d, rfl⟩ : ∃ d, j = i + d := ⟨j - i, by omega⟩
  rw [tp_add]
  have h1 := tp_pos i
  have h2 := tp_pos d
  have := Int.mul_le_mul_of_nonneg_left (show 1 ≤ tp d by omega) (Int.le_of_lt h1)
  omega
theorem nxs_ends {H : Int} {W L : Nat} (hW : tp W = 2 * H) (hH : 2 ≤ H) (hW2 : 2 ≤ W) {v : Int} (hL : Bl v L) {q : Nat} (hq : L / W = q) : (∀ k, k < q → nxs H k v ≠ 0) ∧ 0 ≤ nxs H q v ∧ nxs H q v ≤ H ∧ (nxs H q v ≠ 0 → q + 1 ≤ L) ∧ q ≤ L := by
  have hqW : q * W ≤ L ∧ L < q * W + W := by
    have h1 := Nat.div_add_mod L W
    have h2 := Nat.mod_lt L (show 0 < W by omega)
    rw [hq, Nat.mul_comm] at h1
    omega
  have hqL : q ≤ q * W := Nat.le_mul_of_pos_right q (by omega)
  rcases hL with ⟨rfl, rfl⟩ | ⟨hp, hlo, hhi⟩
  · obtain rfl : q = 0 := by rw [← hq, Nat.zero_div]
    exact ⟨fun k hk => absurd hk (by omega), Int.le_refl _, (show (0 : Int) ≤ H by omega), fun h => absurd rfl h, Nat.le_refl _⟩
  · have hv : 0 < v := Int.lt_of_lt_of_le (tp_pos _) hlo
    obtain ⟨cy, c0, c1, c2⟩ := nxs_form hW hH v q
    have hH' : tp (W - 1) = H := by
      have := tp_succ (W - 1)
      rw [show W - 1 + 1 = W by omega, hW] at this
      omega
    have hd : v / tp (q * W) < H := by
      refine Int.ediv_lt_of_lt_mul (tp_pos _) ?_
      rw [← hH', ← tp_add]
      exact Int.lt_of_lt_of_le hhi (tp_mono (by omega))
    have hd0 : 0 ≤ v / tp (q * W) := Int.ediv_nonneg (Int.le_of_lt hv) (Int.le_of_lt (tp_pos _))
    refine ⟨fun k hk => ?_, by omega, by omega, fun _ => ?_, by omega⟩
    · obtain ⟨cy, c0, c1, c2⟩ := nxs_form hW hH v k
      have hkL : k * W ≤ L - 1 := by
        have h1 : (k + 1) * W ≤ q * W := Nat.mul_le_mul_right W hk
        rw [Nat.succ_mul] at h1
        omega
      have h1 : 1 ≤ v / tp (k * W) := by
        apply (Int.le_ediv_iff_mul_le (tp_pos _)).2
        rw [Int.one_mul]
        exact Int.le_trans (tp_mono hkL) hlo
      omega
    · rcases Nat.eq_zero_or_pos q with h | h
      · omega
      · have h1 : 2 * q ≤ q * W := by rw [Nat.mul_comm]; exact Nat.mul_le_mul_left q hW2
        omega
theorem dg_small {H u : Int} (h0 : 0 ≤ u) (h1 : u ≤ H) (hH : 2 ≤ H) : dg H u = u ∧ nx H u = 0 := by
  have hm : u % (2 * H) = u := Int.emod_eq_of_lt h0 (by omega)
  have hd : dg H u = u := by rw [dg, hm, if_neg (by omega)]
  exact ⟨hd, by rw [nx, hd, Int.sub_self, Int.zero_ediv]⟩
theorem tab_snoc (n : Nat) (F : Nat → Int) : tab (n + 1) F = tab n F ++ [F n] := by simp [tab, List.range_succ]
theorem tab_take (n m : Nat) (F : Nat → Int) (h : m ≤ n) : (tab n F).take m = tab m F := by rw [tab, tab, ← List.map_take, List.take_range, Nat.min_eq_left h]

set_option maxRecDepth 100000 in
set_option maxHeartbeats 4000000 in
theorem frWindows_2 (A : Option Addr) (n c : Nat) (l : List Int) (B : Nat) (w : World) (hr : Rd w B A n .u64 l) (hwl : Words l) (hB : B ≤ w.heap.size) (hn : n ≤ 10000) : Calls Try.prog 30 #[.slice A n c, .int .i64 2] w fun e w' => ∃ A' m c', e = .returned (.tuple #[.slice A' m c', .int .i64 0]) ∧ Own w' w.heap.size 3 .i64 A' m c' (digs 2 (64 * n) (num l)) ∧ Below w.heap.size w w' := by
  obtain ⟨S, hS⟩ : ∃ S, w.heap.size = S := ⟨_, rfl⟩
  have HW : Keep (Words l) := ⟨hwl⟩
  have HN : Keep (n ≤ 10000) := ⟨hn⟩
  have HB : Keep (B ≤ S) := ⟨by omega⟩
  have HWD : Keep (tp 2 = 2 * 2) := ⟨rfl⟩
  obtain ⟨v, hv⟩ : ∃ v, num l = v := ⟨_, rfl⟩
  have HV : Keep (num l = v) := ⟨hv⟩
  have qb0 : Has ((w.alloc (.cells (vals .i64 [0]) 3)).alloc (.cells (vals .i64 [0]) 3)) S 3 (vals .i64 [0]) := (Has.new' _ hS.symm _ _).alloc _
  have qc0 : Has ((w.alloc (.cells (vals .i64 [0]) 3)).alloc (.cells (vals .i64 [0]) 3)) (S + 1) 3 (vals .i64 [0]) := Has.new' _ (by simp only [World.size_alloc, hS]) _ _
  have hb0 : Below S w ((w.alloc (.cells (vals .i64 [0]) 3)).alloc (.cells (vals .i64 [0]) 3)) := by rw [← hS]; exact ((Below.refl _ _).alloc (Nat.le_refl _) _).alloc (by simp) _
  have HR : Keep (∀ x : World, Below S w x → Rd x B A n .u64 l) := ⟨fun x hb => hr.keep hb HB.out⟩
  have HS : Keep (w.heap.size = S) := ⟨hS⟩
  have HSS : Keep (∀ x : World, Below S w x → S ≤ x.heap.size) := ⟨fun x hb => by have := hb.size; omega⟩
  rw [hv]
  clear hwl hn hB hr hv
  go_enter Try.func30, Try.ntmps30
  go_wp2_with (first
    | (refine store_word_ (by rfl) 3 (.tmp 7) (.const (.int .i64 0)) (by rfl) (by rfl) (S + 1) 0 (by rfl) .i64 0 (by rfl) (by kernel_rfl) 3 [0] qc1 (by decide) [0] (by rfl) ?_
       intro w2 qc2 ho
       have qb2 := ho.has qb1 (by omega)
       have hb2 := hb1.trans (ho.below (B := S) (by omega) (HSS.out _ hb1))
       clear ho qc1 qb1 hb1)
    | (refine store_word_ (by rfl) 3 (.tmp 6) (.tmp 19) (by rfl) (by rfl) S 0 (by rfl) .i64 4 (by rfl) (by kernel_rfl) 3 [0] qb0 (by decide) [4] (by rfl) ?_
       intro w1 qb1 ho
       have qc1 := ho.has qc0 (by omega)
       have hb1 := hb0.trans (ho.below (B := S) (Nat.le_refl _) (HSS.out _ hb0))
       clear ho qc0 qb0 hb0)
    | (have hq0 := hb2
       clear hq0
       go_at_call 49
       refine (bitLen_c A n c l B w2 (HR.out _ hb2) HW.out HN.out).mono ?_
       rintro e w' ⟨L, rfl, hBl, hL64, rfl⟩
       rw [HV.out] at hBl
       obtain ⟨q, hq⟩ : ∃ q, L / 2 = q := ⟨_, rfl⟩
       obtain ⟨N, hN⟩ : ∃ N, q + 1 = N := ⟨_, rfl⟩
       have HE : Keep _ := ⟨nxs_ends HWD.out (by omega) (by omega) hBl hq⟩
       have HL : Keep (L ≤ 64 * n) := ⟨hL64⟩
       have hqi : (L : Int) / 2 = (q : Int) := by omega
       have hNi : (q : Int) + 1 = (N : Int) := by omega
       have hNb : N ≤ 320001 := by have := HN.out; omega
       have hLb : L ≤ 640000 := by have := HN.out; omega
       have hmk : ∀ w, (Instr.makeSlice 40 (.int .i64 N) (.int .i64 N)).run Try.prog w = .ok (.slice (some ⟨w.heap.size, 0, none⟩) N N) (w.alloc (.cells (vals .i64 (List.replicate N 0)) 3)) := fun w => run_make_vals w _ _ .i64 Try.underlying40 i64Elem .i64 .i64 N (by omega) (by omega)
       clear hq hBl hL64))
  have qd0 : Has (w2.alloc (.cells (vals .i64 (List.replicate N 0)) 3)) w2.heap.size 3 (vals .i64 (padTo N (tab 0 (fun k => dg 2 (nxs 2 k v))))) := by rw [show tab 0 (fun k => dg 2 (nxs 2 k v)) = [] from rfl, padTo_nil]; exact Has.new _ _ _
  have qb3 := qb2.alloc (.cells (vals .i64 (List.replicate N 0)) 3)
  have qc3 := qc2.alloc (.cells (vals .i64 (List.replicate N 0)) 3)
  have hb3 := hb2.alloc (HSS.out _ hb2) (.cells (vals .i64 (List.replicate N 0)) 3)
  have Nc : Keep (S + 1 < w2.heap.size) := ⟨qc2.lt⟩
  obtain ⟨g, hg⟩ : ∃ g, w2.heap.size = g := ⟨_, rfl⟩
  rw [hg] at qd0 Nc ⊢
  clear qb2 qc2 hmk
  go_loopg [29] N (fun (gk : Nat) vi w10 => ∃ (k : Nat) (cy : Int), k + gk = N ∧ vi = .int .i64 k ∧ Keep (0 ≤ cy ∧ cy ≤ 1 ∧ nxs 2 k v = v / tp (k * 2) + cy) ∧ Has w10 S 3 (vals .i64 [4]) ∧ Has w10 (S + 1) 3 (vals .i64 [cy]) ∧ Has w10 g 3 (vals .i64 (padTo N (tab k (fun k => dg 2 (nxs 2 k v))))) ∧ Below S w w10)
  case atStart => exact ⟨0, 0, by omega, rfl, ⟨by omega, by omega, by rw [Nat.zero_mul, tp_zero, Int.ediv_one, Int.add_zero]; rfl⟩, qb3, qc3, qd0, hb3⟩
  case round =>
    clear qb3 qc3 qd0 hb3 hb2 hg
    obtain ⟨k, cy, hk, rfl, HC, qb10, qc10, qd10, hb10⟩ := hrel
    by_cases hlt : k < N
    · obtain ⟨i, rfl⟩ : ∃ i, gk = i + 1 := ⟨gk - 1, by omega⟩
      obtain ⟨p, hp⟩ : ∃ p, k * 2 = p := ⟨_, rfl⟩
      have hpi : (k : Int) * 2 = (p : Int) := by omega
      have hpb : p ≤ 1000000 := by omega
      obtain ⟨d, hd⟩ : ∃ d, v / tp (k * 2) % 4 = d := ⟨_, rfl⟩
      have hd0 : 0 ≤ d ∧ d < 2 * 2 := by omega
      have ST := nxs_step (W := 2) HWD.out (by omega) HC.out.1 HC.out.2.1 HC.out.2.2 hd
      have P1 : Keep (∀ y : World, Rd y B A n .u64 l → Calls Try.prog 50 #[.slice A n c, .int .i64 (p : Int), .int .i64 2] y fun e y' => e = .returned (.int .i64 d) ∧ y = y') := ⟨fun y h => by
        have h1 := digitAt_2 A n c l B y h HW.out HN.out p hpb
        rw [HV.out, ← hp, hd] at h1
        rw [← hp]
        exact h1⟩
      have hlen : (tab k (fun k => dg 2 (nxs 2 k v))).length = k := tab_len _ _
      by_cases hh : 2 < d + cy
      · obtain ⟨z, hz⟩ : ∃ z, d + cy - 2 * 2 = z := ⟨_, rfl⟩
        have HZ : Keep (dg 2 (nxs 2 k v) = z ∧ nxs 2 (k + 1) v = v / tp ((k + 1) * 2) + 1) := ⟨by rw [← hz]; exact ST.1 hh⟩
        have P2 : Keep (∀ y : World, Has y (S + 1) 3 (vals .i64 [cy]) → Has y S 3 (vals .i64 [4]) → _) := ⟨fun y (h1 : Has y (S + 1) 3 (vals .i64 [cy])) (h2 : Has y S 3 (vals .i64 [4])) => nextW_up d cy 2 hd0.1 hd0.2 HC.out.1 HC.out.2.1 (by omega) (by omega) hh (S + 1) S y (by omega) h1 h2⟩
        rw [hz] at P2
        clear hp hd ST hd0 hz hh
        go_wp2_with (first
          | (go_at_call 48
             refine (P2.out _ qc10 qb10).mono ?_
             rintro e w11 ⟨rfl, qc11, hfar, hb⟩
             have qb11 := hfar _ _ _ qb10 (by omega)
             have qd11 := hfar _ _ _ qd10 (by have := Nc.out; omega)
             have hb11 := hb10.trans (hb.mono (by omega))
             have c0 := qd11.val (i := k) (by rw [padTo_len (by omega)]; exact hlt)
             have z0 := qd11.frozen k
             clear qb10 qc10 qd10 hb10 hfar hb)
          | (go_at_call 50
             refine (P1.out _ (HR.out _ hb10)).mono ?_
             rintro e w' ⟨rfl, rfl⟩))
        go_roundg i
        case measure => omega
        case rel =>
          have h4 := qd11.set_ k (.int .i64 z)
          rw [vals_set, padTo_set' hlen hlt, ← HZ.out.1, ← tab_snoc] at h4
          rw [HZ.out.1] at h4
          exact ⟨k + 1, 1, by omega, by go_num, ⟨by omega, by omega, HZ.out.2⟩, qb11.far (p := ⟨g, k, none⟩) (by have := Nc.out; show S ≠ g; omega) _, qc11.far (p := ⟨g, k, none⟩) (by have := Nc.out; show S + 1 ≠ g; omega) _, h4, hb11.setCell (p := ⟨g, k, none⟩) (by have := Nc.out; show S ≤ g; omega) _⟩
      · obtain ⟨z, hz⟩ : ∃ z, d + cy = z := ⟨_, rfl⟩
        have HZ : Keep (dg 2 (nxs 2 k v) = z ∧ nxs 2 (k + 1) v = v / tp ((k + 1) * 2) + 0) := ⟨by rw [← hz]; exact ST.2 hh⟩
        have P2 : Keep (∀ y : World, Has y (S + 1) 3 (vals .i64 [cy]) → Has y S 3 (vals .i64 [4]) → _) := ⟨fun y (h1 : Has y (S + 1) 3 (vals .i64 [cy])) (h2 : Has y S 3 (vals .i64 [4])) => nextW_no d cy 2 hd0.1 hd0.2 HC.out.1 HC.out.2.1 (by omega) (by omega) hh (S + 1) S y (by omega) h1 h2⟩
        rw [hz] at P2
        clear hp hd ST hd0 hz hh
        go_wp2_with (first
          | (go_at_call 48
             refine (P2.out _ qc10 qb10).mono ?_
             rintro e w11 ⟨rfl, qc11, hfar, hb⟩
             have qb11 := hfar _ _ _ qb10 (by omega)
             have qd11 := hfar _ _ _ qd10 (by have := Nc.out; omega)
             have hb11 := hb10.trans (hb.mono (by omega))
             have c0 := qd11.val (i := k) (by rw [padTo_len (by omega)]; exact hlt)
             have z0 := qd11.frozen k
             clear qb10 qc10 qd10 hb10 hfar hb)
          | (go_at_call 50
             refine (P1.out _ (HR.out _ hb10)).mono ?_
             rintro e w' ⟨rfl, rfl⟩))
        go_roundg i
        case measure => omega
        case rel =>
          have h4 := qd11.set_ k (.int .i64 z)
          rw [vals_set, padTo_set' hlen hlt, ← HZ.out.1, ← tab_snoc] at h4
          rw [HZ.out.1] at h4
          exact ⟨k + 1, 0, by omega, by go_num, ⟨by omega, by omega, HZ.out.2⟩, qb11.far (p := ⟨g, k, none⟩) (by have := Nc.out; show S ≠ g; omega) _, qc11.far (p := ⟨g, k, none⟩) (by have := Nc.out; show S + 1 ≠ g; omega) _, h4, hb11.setCell (p := ⟨g, k, none⟩) (by have := Nc.out; show S ≤ g; omega) _⟩
    · obtain rfl : N = k := by omega
      have hlen : (tab N (fun k => dg 2 (nxs 2 k v))).length = N := tab_len _ _
      rw [padTo_full hlen] at qd10
      obtain ⟨u, hu⟩ : ∃ u, nxs 2 q v = u := ⟨_, rfl⟩
      have hub := HE.out.2
      rw [hu] at hub
      have hsm := dg_small hub.1 hub.2.1 (by omega)
      have c0 := qd10.val (i := q) (by rw [hlen]; omega)
      rw [tab_nth _ (by omega), hu, hsm.1] at c0
      have hqi2 : (N : Int) - 1 = (q : Int) := by omega
      have HOW := Own.of_has (base := S) qd10 (by have := Nc.out; omega) (by rw [hlen]; unfold maxLen; omega)
      rw [hlen] at HOW
      have HOW' : Keep _ := ⟨HOW⟩
      clear HOW
      by_cases h0 : u = 0
      · have h0' : (u == 0) = true := by rw [h0]; rfl
        have HFIN : Keep (digs 2 (64 * n) v = tab q (fun k => dg 2 (nxs 2 k v))) := ⟨digs_tab 2 q (64 * n) v HE.out.1 (by rw [hu, h0]) (by have := HL.out; have := hub.2.2.2; omega)⟩
        have HO2 : Keep _ := ⟨HOW'.out.cut (m := q) (by omega)⟩
        subst h0
        clear hsm hu hub qd10 qc10 qb10 hlen
        go_wp2
        go_ret2
        exact ⟨some ⟨g, 0, none⟩, q, N, rfl, by rw [HS.out, HFIN.out, ← tab_take N q _ (by omega)]; exact HO2.out, by rw [HS.out]; exact hb10⟩
      · have h0' : (u == 0) = false := by rw [beq_eq_false_iff_ne]; exact h0
        have HFIN : Keep (digs 2 (64 * n) v = tab N (fun k => dg 2 (nxs 2 k v))) := ⟨digs_tab 2 N (64 * n) v (fun k hk => by
          rcases Nat.lt_or_ge k q with h | h
          · exact HE.out.1 k h
          · obtain rfl : k = q := by omega
            rw [hu]
            exact h0) (by rw [← hN, nxs, hu, hsm.2]) (by have := HL.out; have := hub.2.2.1 h0; omega)⟩
        clear hsm hu hub qd10 qc10 qb10 hlen
        go_wp2
        go_ret2
        exact ⟨some ⟨g, 0, none⟩, N, N, rfl, by rw [HS.out, HFIN.out]; exact HOW'.out, by rw [HS.out]; exact hb10⟩

set_option maxRecDepth 100000 in
set_option maxHeartbeats 4000000 in
theorem frWindows_3 (A : Option Addr) (n c : Nat) (l : List Int) (B : Nat) (w : World) (hr : Rd w B A n .u64 l) (hwl : Words l) (hB : B ≤ w.heap.size) (hn : n ≤ 10000) : Calls Try.prog 30 #[.slice A n c, .int .i64 3] w fun e w' => ∃ A' m c', e = .returned (.tuple #[.slice A' m c', .int .i64 0]) ∧ Own w' w.heap.size 3 .i64 A' m c' (digs 4 (64 * n) (num l)) ∧ Below w.heap.size w w' := by
  obtain ⟨S, hS⟩ : ∃ S, w.heap.size = S := ⟨_, rfl⟩
  have HW : Keep (Words l) := ⟨hwl⟩
  have HN : Keep (n ≤ 10000) := ⟨hn⟩
  have HB : Keep (B ≤ S) := ⟨by omega⟩
  have HWD : Keep (tp 3 = 2 * 4) := ⟨rfl⟩
  obtain ⟨v, hv⟩ : ∃ v, num l = v := ⟨_, rfl⟩
  have HV : Keep (num l = v) := ⟨hv⟩
  have qb0 : Has ((w.alloc (.cells (vals .i64 [0]) 3)).alloc (.cells (vals .i64 [0]) 3)) S 3 (vals .i64 [0]) := (Has.new' _ hS.symm _ _).alloc _
  have qc0 : Has ((w.alloc (.cells (vals .i64 [0]) 3)).alloc (.cells (vals .i64 [0]) 3)) (S + 1) 3 (vals .i64 [0]) := Has.new' _ (by simp only [World.size_alloc, hS]) _ _
  have hb0 : Below S w ((w.alloc (.cells (vals .i64 [0]) 3)).alloc (.cells (vals .i64 [0]) 3)) := by rw [← hS]; exact ((Below.refl _ _).alloc (Nat.le_refl _) _).alloc (by simp) _
  have HR : Keep (∀ x : World, Below S w x → Rd x B A n .u64 l) := ⟨fun x hb => hr.keep hb HB.out⟩
  have HS : Keep (w.heap.size = S) := ⟨hS⟩
  have HSS : Keep (∀ x : World, Below S w x → S ≤ x.heap.size) := ⟨fun x hb => by have := hb.size; omega⟩
  rw [hv]
  clear hwl hn hB hr hv
  go_enter Try.func30, Try.ntmps30
  go_wp2_with (first
    | (refine store_word_ (by rfl) 3 (.tmp 7) (.const (.int .i64 0)) (by rfl) (by rfl) (S + 1) 0 (by rfl) .i64 0 (by rfl) (by kernel_rfl) 3 [0] qc1 (by decide) [0] (by rfl) ?_
       intro w2 qc2 ho
       have qb2 := ho.has qb1 (by omega)
       have hb2 := hb1.trans (ho.below (B := S) (by omega) (HSS.out _ hb1))
       clear ho qc1 qb1 hb1)
    | (refine store_word_ (by rfl) 3 (.tmp 6) (.tmp 19) (by rfl) (by rfl) S 0 (by rfl) .i64 8 (by rfl) (by kernel_rfl) 3 [0] qb0 (by decide) [8] (by rfl) ?_
       intro w1 qb1 ho
       have qc1 := ho.has qc0 (by omega)
       have hb1 := hb0.trans (ho.below (B := S) (Nat.le_refl _) (HSS.out _ hb0))
       clear ho qc0 qb0 hb0)
    | (have hq0 := hb2
       clear hq0
       go_at_call 49
       refine (bitLen_c A n c l B w2 (HR.out _ hb2) HW.out HN.out).mono ?_
       rintro e w' ⟨L, rfl, hBl, hL64, rfl⟩
       rw [HV.out] at hBl
       obtain ⟨q, hq⟩ : ∃ q, L / 3 = q := ⟨_, rfl⟩
       obtain ⟨N, hN⟩ : ∃ N, q + 1 = N := ⟨_, rfl⟩
       have HE : Keep _ := ⟨nxs_ends HWD.out (by omega) (by omega) hBl hq⟩
       have HL : Keep (L ≤ 64 * n) := ⟨hL64⟩
       have hqi : (L : Int) / 3 = (q : Int) := by omega
       have hNi : (q : Int) + 1 = (N : Int) := by omega
       have hNb : N ≤ 320001 := by have := HN.out; omega
       have hLb : L ≤ 640000 := by have := HN.out; omega
       have hmk : ∀ w, (Instr.makeSlice 40 (.int .i64 N) (.int .i64 N)).run Try.prog w = .ok (.slice (some ⟨w.heap.size, 0, none⟩) N N) (w.alloc (.cells (vals .i64 (List.replicate N 0)) 3)) := fun w => run_make_vals w _ _ .i64 Try.underlying40 i64Elem .i64 .i64 N (by omega) (by omega)
       clear hq hBl hL64))
  have qd0 : Has (w2.alloc (.cells (vals .i64 (List.replicate N 0)) 3)) w2.heap.size 3 (vals .i64 (padTo N (tab 0 (fun k => dg 4 (nxs 4 k v))))) := by rw [show tab 0 (fun k => dg 4 (nxs 4 k v)) = [] from rfl, padTo_nil]; exact Has.new _ _ _
  have qb3 := qb2.alloc (.cells (vals .i64 (List.replicate N 0)) 3)
  have qc3 := qc2.alloc (.cells (vals .i64 (List.replicate N 0)) 3)
  have hb3 := hb2.alloc (HSS.out _ hb2) (.cells (vals .i64 (List.replicate N 0)) 3)
  have Nc : Keep (S + 1 < w2.heap.size) := ⟨qc2.lt⟩
  obtain ⟨g, hg⟩ : ∃ g, w2.heap.size = g := ⟨_, rfl⟩
  rw [hg] at qd0 Nc ⊢
  clear qb2 qc2 hmk
  go_loopg [29] N (fun (gk : Nat) vi w10 => ∃ (k : Nat) (cy : Int), k + gk = N ∧ vi = .int .i64 k ∧ Keep (0 ≤ cy ∧ cy ≤ 1 ∧ nxs 4 k v = v / tp (k * 3) + cy) ∧ Has w10 S 3 (vals .i64 [8]) ∧ Has w10 (S + 1) 3 (vals .i64 [cy]) ∧ Has w10 g 3 (vals .i64 (padTo N (tab k (fun k => dg 4 (nxs 4 k v))))) ∧ Below S w w10)
  case atStart => exact ⟨0, 0, by omega, rfl, ⟨by omega, by omega, by rw [Nat.zero_mul, tp_zero, Int.ediv_one, Int.add_zero]; rfl⟩, qb3, qc3, qd0, hb3⟩
  case round =>
    clear qb3 qc3 qd0 hb3 hb2 hg
    obtain ⟨k, cy, hk, rfl, HC, qb10, qc10, qd10, hb10⟩ := hrel
    by_cases hlt : k < N
    · obtain ⟨i, rfl⟩ : ∃ i, gk = i + 1 := ⟨gk - 1, by omega⟩
      obtain ⟨p, hp⟩ : ∃ p, k * 3 = p := ⟨_, rfl⟩
      have hpi : (k : Int) * 3 = (p : Int) := by omega
      have hpb : p ≤ 1000000 := by omega
      obtain ⟨d, hd⟩ : ∃ d, v / tp (k * 3) % 8 = d := ⟨_, rfl⟩
      have hd0 : 0 ≤ d ∧ d < 2 * 4 := by omega
      have ST := nxs_step (W := 3) HWD.out (by omega) HC.out.1 HC.out.2.1 HC.out.2.2 hd
      have P1 : Keep (∀ y : World, Rd y B A n .u64 l → Calls Try.prog 50 #[.slice A n c, .int .i64 (p : Int), .int .i64 3] y fun e y' => e = .returned (.int .i64 d) ∧ y = y') := ⟨fun y h => by
        have h1 := digitAt_3 A n c l B y h HW.out HN.out p hpb
        rw [HV.out, ← hp, hd] at h1
        rw [← hp]
        exact h1⟩
      have hlen : (tab k (fun k => dg 4 (nxs 4 k v))).length = k := tab_len _ _
      by_cases hh : 4 < d + cy
      · obtain ⟨z, hz⟩ : ∃ z, d + cy - 2 * 4 = z := ⟨_, rfl⟩
        have HZ : Keep (dg 4 (nxs 4 k v) = z ∧ nxs 4 (k + 1) v = v / tp ((k + 1) * 3) + 1) := ⟨by rw [← hz]; exact ST.1 hh⟩
        have P2 : Keep (∀ y : World, Has y (S + 1) 3 (vals .i64 [cy]) → Has y S 3 (vals .i64 [8]) → _) := ⟨fun y (h1 : Has y (S + 1) 3 (vals .i64 [cy])) (h2 : Has y S 3 (vals .i64 [8])) => nextW_up d cy 4 hd0.1 hd0.2 HC.out.1 HC.out.2.1 (by omega) (by omega) hh (S + 1) S y (by omega) h1 h2⟩
        rw [hz] at P2
        clear hp hd ST hd0 hz hh
        go_wp2_with (first
          | (go_at_call 48
             refine (P2.out _ qc10 qb10).mono ?_
             rintro e w11 ⟨rfl, qc11, hfar, hb⟩
             have qb11 := hfar _ _ _ qb10 (by omega)
             have qd11 := hfar _ _ _ qd10 (by have := Nc.out; omega)
             have hb11 := hb10.trans (hb.mono (by omega))
             have c0 := qd11.val (i := k) (by rw [padTo_len (by omega)]; exact hlt)
             have z0 := qd11.frozen k
             clear qb10 qc10 qd10 hb10 hfar hb)
          | (go_at_call 50
             refine (P1.out _ (HR.out _ hb10)).mono ?_
             rintro e w' ⟨rfl, rfl⟩))
        go_roundg i
        case measure => omega
        case rel =>
          have h4 := qd11.set_ k (.int .i64 z)
          rw [vals_set, padTo_set' hlen hlt, ← HZ.out.1, ← tab_snoc] at h4
          rw [HZ.out.1] at h4
          exact ⟨k + 1, 1, by omega, by go_num, ⟨by omega, by omega, HZ.out.2⟩, qb11.far (p := ⟨g, k, none⟩) (by have := Nc.out; show S ≠ g; omega) _, qc11.far (p := ⟨g, k, none⟩) (by have := Nc.out; show S + 1 ≠ g; omega) _, h4, hb11.setCell (p := ⟨g, k, none⟩) (by have := Nc.out; show S ≤ g; omega) _⟩
      · obtain ⟨z, hz⟩ : ∃ z, d + cy = z := ⟨_, rfl⟩
        have HZ : Keep (dg 4 (nxs 4 k v) = z ∧ nxs 4 (k + 1) v = v / tp ((k + 1) * 3) + 0) := ⟨by rw [← hz]; exact ST.2 hh⟩
        have P2 : Keep (∀ y : World, Has y (S + 1) 3 (vals .i64 [cy]) → Has y S 3 (vals .i64 [8]) → _) := ⟨fun y (h1 : Has y (S + 1) 3 (vals .i64 [cy])) (h2 : Has y S 3 (vals .i64 [8])) => nextW_no d cy 4 hd0.1 hd0.2 HC.out.1 HC.out.2.1 (by omega) (by omega) hh (S + 1) S y (by omega) h1 h2⟩
        rw [hz] at P2
        clear hp hd ST hd0 hz hh
        go_wp2_with (first
          | (go_at_call 48
             refine (P2.out _ qc10 qb10).mono ?_
             rintro e w11 ⟨rfl, qc11, hfar, hb⟩
             have qb11 := hfar _ _ _ qb10 (by omega)
             have qd11 := hfar _ _ _ qd10 (by have := Nc.out; omega)
             have hb11 := hb10.trans (hb.mono (by omega))
             have c0 := qd11.val (i := k) (by rw [padTo_len (by omega)]; exact hlt)
             have z0 := qd11.frozen k
             clear qb10 qc10 qd10 hb10 hfar hb)
          | (go_at_call 50
             refine (P1.out _ (HR.out _ hb10)).mono ?_
             rintro e w' ⟨rfl, rfl⟩))
        go_roundg i
        case measure => omega
        case rel =>
          have h4 := qd11.set_ k (.int .i64 z)
          rw [vals_set, padTo_set' hlen hlt, ← HZ.out.1, ← tab_snoc] at h4
          rw [HZ.out.1] at h4
          exact ⟨k + 1, 0, by omega, by go_num, ⟨by omega, by omega, HZ.out.2⟩, qb11.far (p := ⟨g, k, none⟩) (by have := Nc.out; show S ≠ g; omega) _, qc11.far (p := ⟨g, k, none⟩) (by have := Nc.out; show S + 1 ≠ g; omega) _, h4, hb11.setCell (p := ⟨g, k, none⟩) (by have := Nc.out; show S ≤ g; omega) _⟩
    · obtain rfl : N = k := by omega
      have hlen : (tab N (fun k => dg 4 (nxs 4 k v))).length = N := tab_len _ _
      rw [padTo_full hlen] at qd10
      obtain ⟨u, hu⟩ : ∃ u, nxs 4 q v = u := ⟨_, rfl⟩
      have hub := HE.out.2
      rw [hu] at hub
      have hsm := dg_small hub.1 hub.2.1 (by omega)
      have c0 := qd10.val (i := q) (by rw [hlen]; omega)
      rw [tab_nth _ (by omega), hu, hsm.1] at c0
      have hqi2 : (N : Int) - 1 = (q : Int) := by omega
      have HOW := Own.of_has (base := S) qd10 (by have := Nc.out; omega) (by rw [hlen]; unfold maxLen; omega)
      rw [hlen] at HOW
      have HOW' : Keep _ := ⟨HOW⟩
      clear HOW
      by_cases h0 : u = 0
      · have h0' : (u == 0) = true := by rw [h0]; rfl
        have HFIN : Keep (digs 4 (64 * n) v = tab q (fun k => dg 4 (nxs 4 k v))) := ⟨digs_tab 4 q (64 * n) v HE.out.1 (by rw [hu, h0]) (by have := HL.out; have := hub.2.2.2; omega)⟩
        have HO2 : Keep _ := ⟨HOW'.out.cut (m := q) (by omega)⟩
        subst h0
        clear hsm hu hub qd10 qc10 qb10 hlen
        go_wp2
        go_ret2
        exact ⟨some ⟨g, 0, none⟩, q, N, rfl, by rw [HS.out, HFIN.out, ← tab_take N q _ (by omega)]; exact HO2.out, by rw [HS.out]; exact hb10⟩
      · have h0' : (u == 0) = false := by rw [beq_eq_false_iff_ne]; exact h0
        have HFIN : Keep (digs 4 (64 * n) v = tab N (fun k => dg 4 (nxs 4 k v))) := ⟨digs_tab 4 N (64 * n) v (fun k hk => by
          rcases Nat.lt_or_ge k q with h | h
          · exact HE.out.1 k h
          · obtain rfl : k = q := by omega
            rw [hu]
            exact h0) (by rw [← hN, nxs, hu, hsm.2]) (by have := HL.out; have := hub.2.2.1 h0; omega)⟩
        clear hsm hu hub qd10 qc10 qb10 hlen
        go_wp2
        go_ret2
        exact ⟨some ⟨g, 0, none⟩, N, N, rfl, by rw [HS.out, HFIN.out]; exact HOW'.out, by rw [HS.out]; exact hb10⟩

set_option maxRecDepth 100000 in
set_option maxHeartbeats 4000000 in
theorem frWindows_4 (A : Option Addr) (n c : Nat) (l : List Int) (B : Nat) (w : World) (hr : Rd w B A n .u64 l) (hwl : Words l) (hB : B ≤ w.heap.size) (hn : n ≤ 10000) : Calls Try.prog 30 #[.slice A n c, .int .i64 4] w fun e w' => ∃ A' m c', e = .returned (.tuple #[.slice A' m c', .int .i64 0]) ∧ Own w' w.heap.size 3 .i64 A' m c' (digs 8 (64 * n) (num l)) ∧ Below w.heap.size w w' := by
  obtain ⟨S, hS⟩ : ∃ S, w.heap.size = S := ⟨_, rfl⟩
  have HW : Keep (Words l) := ⟨hwl⟩
  have HN : Keep (n ≤ 10000) := ⟨hn⟩
  have HB : Keep (B ≤ S) := ⟨by omega⟩
  have HWD : Keep (tp 4 = 2 * 8) := ⟨rfl⟩
  obtain ⟨v, hv⟩ : ∃ v, num l = v := ⟨_, rfl⟩
  have HV : Keep (num l = v) := ⟨hv⟩
  have qb0 : Has ((w.alloc (.cells (vals .i64 [0]) 3)).alloc (.cells (vals .i64 [0]) 3)) S 3 (vals .i64 [0]) := (Has.new' _ hS.symm _ _).alloc _
  have qc0 : Has ((w.alloc (.cells (vals .i64 [0]) 3)).alloc (.cells (vals .i64 [0]) 3)) (S + 1) 3 (vals .i64 [0]) := Has.new' _ (by simp only [World.size_alloc, hS]) _ _
  have hb0 : Below S w ((w.alloc (.cells (vals .i64 [0]) 3)).alloc (.cells (vals .i64 [0]) 3)) := by rw [← hS]; exact ((Below.refl _ _).alloc (Nat.le_refl _) _).alloc (by simp) _
  have HR : Keep (∀ x : World, Below S w x → Rd x B A n .u64 l) := ⟨fun x hb => hr.keep hb HB.out⟩
  have HS : Keep (w.heap.size = S) := ⟨hS⟩
  have HSS : Keep (∀ x : World, Below S w x → S ≤ x.heap.size) := ⟨fun x hb => by have := hb.size; omega⟩
  rw [hv]
  clear hwl hn hB hr hv
  go_enter Try.func30, Try.ntmps30
  go_wp2_with (first
    | (refine store_word_ (by rfl) 3 (.tmp 7) (.const (.int .i64 0)) (by rfl) (by rfl) (S + 1) 0 (by rfl) .i64 0 (by rfl) (by kernel_rfl) 3 [0] qc1 (by decide) [0] (by rfl) ?_
       intro w2 qc2 ho
       have qb2 := ho.has qb1 (by omega)
       have hb2 := hb1.trans (ho.below (B := S) (by omega) (HSS.out _ hb1))
       clear ho qc1 qb1 hb1)
    | (refine store_word_ (by rfl) 3 (.tmp 6) (.tmp 19) (by rfl) (by rfl) S 0 (by rfl) .i64 16 (by rfl) (by kernel_rfl) 3 [0] qb0 (by decide) [16] (by rfl) ?_
       intro w1 qb1 ho
       have qc1 := ho.has qc0 (by omega)
       have hb1 := hb0.trans (ho.below (B := S) (Nat.le_refl _) (HSS.out _ hb0))
       clear ho qc0 qb0 hb0)
    | (have hq0 := hb2
       clear hq0
       go_at_call 49
       refine (bitLen_c A n c l B w2 (HR.out _ hb2) HW.out HN.out).mono ?_
       rintro e w' ⟨L, rfl, hBl, hL64, rfl⟩
       rw [HV.out] at hBl
       obtain ⟨q, hq⟩ : ∃ q, L / 4 = q := ⟨_, rfl⟩
       obtain ⟨N, hN⟩ : ∃ N, q + 1 = N := ⟨_, rfl⟩
       have HE : Keep _ := ⟨nxs_ends HWD.out (by omega) (by omega) hBl hq⟩
       have HL : Keep (L ≤ 64 * n) := ⟨hL64⟩
       have hqi : (L : Int) / 4 = (q : Int) := by omega
       have hNi : (q : Int) + 1 = (N : Int) := by omega
       have hNb : N ≤ 320001 := by have := HN.out; omega
       have hLb : L ≤ 640000 := by have := HN.out; omega
       have hmk : ∀ w, (Instr.makeSlice 40 (.int .i64 N) (.int .i64 N)).run Try.prog w = .ok (.slice (some ⟨w.heap.size, 0, none⟩) N N) (w.alloc (.cells (vals .i64 (List.replicate N 0)) 3)) := fun w => run_make_vals w _ _ .i64 Try.underlying40 i64Elem .i64 .i64 N (by omega) (by omega)
       clear hq hBl hL64))
  have qd0 : Has (w2.alloc (.cells (vals .i64 (List.replicate N 0)) 3)) w2.heap.size 3 (vals .i64 (padTo N (tab 0 (fun k => dg 8 (nxs 8 k v))))) := by rw [show tab 0 (fun k => dg 8 (nxs 8 k v)) = [] from rfl, padTo_nil]; exact Has.new _ _ _
  have qb3 := qb2.alloc (.cells (vals .i64 (List.replicate N 0)) 3)
  have qc3 := qc2.alloc (.cells (vals .i64 (List.replicate N 0)) 3)
  have hb3 := hb2.alloc (HSS.out _ hb2) (.cells (vals .i64 (List.replicate N 0)) 3)
  have Nc : Keep (S + 1 < w2.heap.size) := ⟨qc2.lt⟩
  obtain ⟨g, hg⟩ : ∃ g, w2.heap.size = g := ⟨_, rfl⟩
  rw [hg] at qd0 Nc ⊢
  clear qb2 qc2 hmk
  go_loopg [29] N (fun (gk : Nat) vi w10 => ∃ (k : Nat) (cy : Int), k + gk = N ∧ vi = .int .i64 k ∧ Keep (0 ≤ cy ∧ cy ≤ 1 ∧ nxs 8 k v = v / tp (k * 4) + cy) ∧ Has w10 S 3 (vals .i64 [16]) ∧ Has w10 (S + 1) 3 (vals .i64 [cy]) ∧ Has w10 g 3 (vals .i64 (padTo N (tab k (fun k => dg 8 (nxs 8 k v))))) ∧ Below S w w10)
  case atStart => exact ⟨0, 0, by omega, rfl, ⟨by omega, by omega, by rw [Nat.zero_mul, tp_zero, Int.ediv_one, Int.add_zero]; rfl⟩, qb3, qc3, qd0, hb3⟩
  case round =>
    clear qb3 qc3 qd0 hb3 hb2 hg
    obtain ⟨k, cy, hk, rfl, HC, qb10, qc10, qd10, hb10⟩ := hrel
    by_cases hlt : k < N
    · obtain ⟨i, rfl⟩ : ∃ i, gk = i + 1 := ⟨gk - 1, by omega⟩
      obtain ⟨p, hp⟩ : ∃ p, k * 4 = p := ⟨_, rfl⟩
      have hpi : (k : Int) * 4 = (p : Int) := by omega
      have hpb : p ≤ 1000000 := by omega
      obtain ⟨d, hd⟩ : ∃ d, v / tp (k * 4) % 16 = d := ⟨_, rfl⟩
      have hd0 : 0 ≤ d ∧ d < 2 * 8 := by omega
      have ST := nxs_step (W := 4) HWD.out (by omega) HC.out.1 HC.out.2.1 HC.out.2.2 hd
      have P1 : Keep (∀ y : World, Rd y B A n .u64 l → Calls Try.prog 50 #[.slice A n c, .int .i64 (p : Int), .int .i64 4] y fun e y' => e = .returned (.int .i64 d) ∧ y = y') := ⟨fun y h => by
        have h1 := digitAt_4 A n c l B y h HW.out HN.out p hpb
        rw [HV.out, ← hp, hd] at h1
        rw [← hp]
        exact h1⟩
      have hlen : (tab k (fun k => dg 8 (nxs 8 k v))).length = k := tab_len _ _
      by_cases hh : 8 < d + cy
      · obtain ⟨z, hz⟩ : ∃ z, d + cy - 2 * 8 = z := ⟨_, rfl⟩
        have HZ : Keep (dg 8 (nxs 8 k v) = z ∧ nxs 8 (k + 1) v = v / tp ((k + 1) * 4) + 1) := ⟨by rw [← hz]; exact ST.1 hh⟩
        have P2 : Keep (∀ y : World, Has y (S + 1) 3 (vals .i64 [cy]) → Has y S 3 (vals .i64 [16]) → _) := ⟨fun y (h1 : Has y (S + 1) 3 (vals .i64 [cy])) (h2 : Has y S 3 (vals .i64 [16])) => nextW_up d cy 8 hd0.1 hd0.2 HC.out.1 HC.out.2.1 (by omega) (by omega) hh (S + 1) S y (by omega) h1 h2⟩
        rw [hz] at P2
        clear hp hd ST hd0 hz hh
        go_wp2_with (first
          | (go_at_call 48
             refine (P2.out _ qc10 qb10).mono ?_
             rintro e w11 ⟨rfl, qc11, hfar, hb⟩
             have qb11 := hfar _ _ _ qb10 (by omega)
             have qd11 := hfar _ _ _ qd10 (by have := Nc.out; omega)
             have hb11 := hb10.trans (hb.mono (by omega))
             have c0 := qd11.val (i := k) (by rw [padTo_len (by omega)]; exact hlt)
             have z0 := qd11.frozen k
             clear qb10 qc10 qd10 hb10 hfar hb)
          | (go_at_call 50
             refine (P1.out _ (HR.out _ hb10)).mono ?_
             rintro e w' ⟨rfl, rfl⟩))
        go_roundg i
        case measure => omega
        case rel =>
          have h4 := qd11.set_ k (.int .i64 z)
          rw [vals_set, padTo_set' hlen hlt, ← HZ.out.1, ← tab_snoc] at h4
          rw [HZ.out.1] at h4
          exact ⟨k + 1, 1, by omega, by go_num, ⟨by omega, by omega, HZ.out.2⟩, qb11.far (p := ⟨g, k, none⟩) (by have := Nc.out; show S ≠ g; omega) _, qc11.far (p := ⟨g, k, none⟩) (by have := Nc.out; show S + 1 ≠ g; omega) _, h4, hb11.setCell (p := ⟨g, k, none⟩) (by have := Nc.out; show S ≤ g; omega) _⟩
      · obtain ⟨z, hz⟩ : ∃ z, d + cy = z := ⟨_, rfl⟩
        have HZ : Keep (dg 8 (nxs 8 k v) = z ∧ nxs 8 (k + 1) v = v / tp ((k + 1) * 4) + 0) := ⟨by rw [← hz]; exact ST.2 hh⟩
        have P2 : Keep (∀ y : World, Has y (S + 1) 3 (vals .i64 [cy]) → Has y S 3 (vals .i64 [16]) → _) := ⟨fun y (h1 : Has y (S + 1) 3 (vals .i64 [cy])) (h2 : Has y S 3 (vals .i64 [16])) => nextW_no d cy 8 hd0.1 hd0.2 HC.out.1 HC.out.2.1 (by omega) (by omega) hh (S + 1) S y (by omega) h1 h2⟩
        rw [hz] at P2
        clear hp hd ST hd0 hz hh
        go_wp2_with (first
          | (go_at_call 48
             refine (P2.out _ qc10 qb10).mono ?_
             rintro e w11 ⟨rfl, qc11, hfar, hb⟩
             have qb11 := hfar _ _ _ qb10 (by omega)
             have qd11 := hfar _ _ _ qd10 (by have := Nc.out; omega)
             have hb11 := hb10.trans (hb.mono (by omega))
             have c0 := qd11.val (i := k) (by rw [padTo_len (by omega)]; exact hlt)
             have z0 := qd11.frozen k
             clear qb10 qc10 qd10 hb10 hfar hb)
          | (go_at_call 50
             refine (P1.out _ (HR.out _ hb10)).mono ?_
             rintro e w' ⟨rfl, rfl⟩))
        go_roundg i
        case measure => omega
        case rel =>
          have h4 := qd11.set_ k (.int .i64 z)
          rw [vals_set, padTo_set' hlen hlt, ← HZ.out.1, ← tab_snoc] at h4
          rw [HZ.out.1] at h4
          exact ⟨k + 1, 0, by omega, by go_num, ⟨by omega, by omega, HZ.out.2⟩, qb11.far (p := ⟨g, k, none⟩) (by have := Nc.out; show S ≠ g; omega) _, qc11.far (p := ⟨g, k, none⟩) (by have := Nc.out; show S + 1 ≠ g; omega) _, h4, hb11.setCell (p := ⟨g, k, none⟩) (by have := Nc.out; show S ≤ g; omega) _⟩
    · obtain rfl : N = k := by omega
      have hlen : (tab N (fun k => dg 8 (nxs 8 k v))).length = N := tab_len _ _
      rw [padTo_full hlen] at qd10
      obtain ⟨u, hu⟩ : ∃ u, nxs 8 q v = u := ⟨_, rfl⟩
      have hub := HE.out.2
      rw [hu] at hub
      have hsm := dg_small hub.1 hub.2.1 (by omega)
      have c0 := qd10.val (i := q) (by rw [hlen]; omega)
      rw [tab_nth _ (by omega), hu, hsm.1] at c0
      have hqi2 : (N : Int) - 1 = (q : Int) := by omega
      have HOW := Own.of_has (base := S) qd10 (by have := Nc.out; omega) (by rw [hlen]; unfold maxLen; omega)
      rw [hlen] at HOW
      have HOW' : Keep _ := ⟨HOW⟩
      clear HOW
      by_cases h0 : u = 0
      · have h0' : (u == 0) = true := by rw [h0]; rfl
        have HFIN : Keep (digs 8 (64 * n) v = tab q (fun k => dg 8 (nxs 8 k v))) := ⟨digs_tab 8 q (64 * n) v HE.out.1 (by rw [hu, h0]) (by have := HL.out; have := hub.2.2.2; omega)⟩
        have HO2 : Keep _ := ⟨HOW'.out.cut (m := q) (by omega)⟩
        subst h0
        clear hsm hu hub qd10 qc10 qb10 hlen
        go_wp2
        go_ret2
        exact ⟨some ⟨g, 0, none⟩, q, N, rfl, by rw [HS.out, HFIN.out, ← tab_take N q _ (by omega)]; exact HO2.out, by rw [HS.out]; exact hb10⟩
      · have h0' : (u == 0) = false := by rw [beq_eq_false_iff_ne]; exact h0
        have HFIN : Keep (digs 8 (64 * n) v = tab N (fun k => dg 8 (nxs 8 k v))) := ⟨digs_tab 8 N (64 * n) v (fun k hk => by
          rcases Nat.lt_or_ge k q with h | h
          · exact HE.out.1 k h
          · obtain rfl : k = q := by omega
            rw [hu]
            exact h0) (by rw [← hN, nxs, hu, hsm.2]) (by have := HL.out; have := hub.2.2.1 h0; omega)⟩
        clear hsm hu hub qd10 qc10 qb10 hlen
        go_wp2
        go_ret2
        exact ⟨some ⟨g, 0, none⟩, N, N, rfl, by rw [HS.out, HFIN.out]; exact HOW'.out, by rw [HS.out]; exact hb10⟩

set_option maxRecDepth 100000 in
set_option maxHeartbeats 4000000 in
theorem frWindows_5 (A : Option Addr) (n c : Nat) (l : List Int) (B : Nat) (w : World) (hr : Rd w B A n .u64 l) (hwl : Words l) (hB : B ≤ w.heap.size) (hn : n ≤ 10000) : Calls Try.prog 30 #[.slice A n c, .int .i64 5] w fun e w' => ∃ A' m c', e = .returned (.tuple #[.slice A' m c', .int .i64 0]) ∧ Own w' w.heap.size 3 .i64 A' m c' (digs 16 (64 * n) (num l)) ∧ Below w.heap.size w w' := by
  obtain ⟨S, hS⟩ : ∃ S, w.heap.size = S := ⟨_, rfl⟩
  have HW : Keep (Words l) := ⟨hwl⟩
  have HN : Keep (n ≤ 10000) := ⟨hn⟩
  have HB : Keep (B ≤ S) := ⟨by omega⟩
  have HWD : Keep (tp 5 = 2 * 16) := ⟨rfl⟩
  obtain ⟨v, hv⟩ : ∃ v, num l = v := ⟨_, rfl⟩
  have HV : Keep (num l = v) := ⟨hv⟩
  have qb0 : Has ((w.alloc (.cells (vals .i64 [0]) 3)).alloc (.cells (vals .i64 [0]) 3)) S 3 (vals .i64 [0]) := (Has.new' _ hS.symm _ _).alloc _
  have qc0 : Has ((w.alloc (.cells (vals .i64 [0]) 3)).alloc (.cells (vals .i64 [0]) 3)) (S + 1) 3 (vals .i64 [0]) := Has.new' _ (by simp only [World.size_alloc, hS]) _ _
  have hb0 : Below S w ((w.alloc (.cells (vals .i64 [0]) 3)).alloc (.cells (vals .i64 [0]) 3)) := by rw [← hS]; exact ((Below.refl _ _).alloc (Nat.le_refl _) _).alloc (by simp) _
  have HR : Keep (∀ x : World, Below S w x → Rd x B A n .u64 l) := ⟨fun x hb => hr.keep hb HB.out⟩
  have HS : Keep (w.heap.size = S) := ⟨hS⟩
  have HSS : Keep (∀ x : World, Below S w x → S ≤ x.heap.size) := ⟨fun x hb => by have := hb.size; omega⟩
  rw [hv]
  clear hwl hn hB hr hv
  go_enter Try.func30, Try.ntmps30
  go_wp2_with (first
    | (refine store_word_ (by rfl) 3 (.tmp 7) (.const (.int .i64 0)) (by rfl) (by rfl) (S + 1) 0 (by rfl) .i64 0 (by rfl) (by kernel_rfl) 3 [0] qc1 (by decide) [0] (by rfl) ?_
       intro w2 qc2 ho
       have qb2 := ho.has qb1 (by omega)
       have hb2 := hb1.trans (ho.below (B := S) (by omega) (HSS.out _ hb1))
       clear ho qc1 qb1 hb1)
    | (refine store_word_ (by rfl) 3 (.tmp 6) (.tmp 19) (by rfl) (by rfl) S 0 (by rfl) .i64 32 (by rfl) (by kernel_rfl) 3 [0] qb0 (by decide) [32] (by rfl) ?_
       intro w1 qb1 ho
       have qc1 := ho.has qc0 (by omega)
       have hb1 := hb0.trans (ho.below (B := S) (Nat.le_refl _) (HSS.out _ hb0))
       clear ho qc0 qb0 hb0)
    | (have hq0 := hb2
       clear hq0
       go_at_call 49
       refine (bitLen_c A n c l B w2 (HR.out _ hb2) HW.out HN.out).mono ?_
       rintro e w' ⟨L, rfl, hBl, hL64, rfl⟩
       rw [HV.out] at hBl
       obtain ⟨q, hq⟩ : ∃ q, L / 5 = q := ⟨_, rfl⟩
       obtain ⟨N, hN⟩ : ∃ N, q + 1 = N := ⟨_, rfl⟩
       have HE : Keep _ := ⟨nxs_ends HWD.out (by omega) (by omega) hBl hq⟩
       have HL : Keep (L ≤ 64 * n) := ⟨hL64⟩
       have hqi : (L : Int) / 5 = (q : Int) := by omega
       have hNi : (q : Int) + 1 = (N : Int) := by omega
       have hNb : N ≤ 320001 := by have := HN.out; omega
       have hLb : L ≤ 640000 := by have := HN.out; omega
       have hmk : ∀ w, (Instr.makeSlice 40 (.int .i64 N) (.int .i64 N)).run Try.prog w = .ok (.slice (some ⟨w.heap.size, 0, none⟩) N N) (w.alloc (.cells (vals .i64 (List.replicate N 0)) 3)) := fun w => run_make_vals w _ _ .i64 Try.underlying40 i64Elem .i64 .i64 N (by omega) (by omega)
       clear hq hBl hL64))
  have qd0 : Has (w2.alloc (.cells (vals .i64 (List.replicate N 0)) 3)) w2.heap.size 3 (vals .i64 (padTo N (tab 0 (fun k => dg 16 (nxs 16 k v))))) := by rw [show tab 0 (fun k => dg 16 (nxs 16 k v)) = [] from rfl, padTo_nil]; exact Has.new _ _ _
  have qb3 := qb2.alloc (.cells (vals .i64 (List.replicate N 0)) 3)
  have qc3 := qc2.alloc (.cells (vals .i64 (List.replicate N 0)) 3)
  have hb3 := hb2.alloc (HSS.out _ hb2) (.cells (vals .i64 (List.replicate N 0)) 3)
  have Nc : Keep (S + 1 < w2.heap.size) := ⟨qc2.lt⟩
  obtain ⟨g, hg⟩ : ∃ g, w2.heap.size = g := ⟨_, rfl⟩
  rw [hg] at qd0 Nc ⊢
  clear qb2 qc2 hmk
  go_loopg [29] N (fun (gk : Nat) vi w10 => ∃ (k : Nat) (cy : Int), k + gk = N ∧ vi = .int .i64 k ∧ Keep (0 ≤ cy ∧ cy ≤ 1 ∧ nxs 16 k v = v / tp (k * 5) + cy) ∧ Has w10 S 3 (vals .i64 [32]) ∧ Has w10 (S + 1) 3 (vals .i64 [cy]) ∧ Has w10 g 3 (vals .i64 (padTo N (tab k (fun k => dg 16 (nxs 16 k v))))) ∧ Below S w w10)
  case atStart => exact ⟨0, 0, by omega, rfl, ⟨by omega, by omega, by rw [Nat.zero_mul, tp_zero, Int.ediv_one, Int.add_zero]; rfl⟩, qb3, qc3, qd0, hb3⟩
  case round =>
    clear qb3 qc3 qd0 hb3 hb2 hg
    obtain ⟨k, cy, hk, rfl, HC, qb10, qc10, qd10, hb10⟩ := hrel
    by_cases hlt : k < N
    · obtain ⟨i, rfl⟩ : ∃ i, gk = i + 1 := ⟨gk - 1, by omega⟩
      obtain ⟨p, hp⟩ : ∃ p, k * 5 = p := ⟨_, rfl⟩
      have hpi : (k : Int) * 5 = (p : Int) := by omega
      have hpb : p ≤ 1000000 := by omega
      obtain ⟨d, hd⟩ : ∃ d, v / tp (k * 5) % 32 = d := ⟨_, rfl⟩
      have hd0 : 0 ≤ d ∧ d < 2 * 16 := by omega
      have ST := nxs_step (W := 5) HWD.out (by omega) HC.out.1 HC.out.2.1 HC.out.2.2 hd
      have P1 : Keep (∀ y : World, Rd y B A n .u64 l → Calls Try.prog 50 #[.slice A n c, .int .i64 (p : Int), .int .i64 5] y fun e y' => e = .returned (.int .i64 d) ∧ y = y') := ⟨fun y h => by
        have h1 := digitAt_5 A n c l B y h HW.out HN.out p hpb
        rw [HV.out, ← hp, hd] at h1
        rw [← hp]
        exact h1⟩
      have hlen : (tab k (fun k => dg 16 (nxs 16 k v))).length = k := tab_len _ _
      by_cases hh : 16 < d + cy
      · obtain ⟨z, hz⟩ : ∃ z, d + cy - 2 * 16 = z := ⟨_, rfl⟩
        have HZ : Keep (dg 16 (nxs 16 k v) = z ∧ nxs 16 (k + 1) v = v / tp ((k + 1) * 5) + 1) := ⟨by rw [← hz]; exact ST.1 hh⟩
        have P2 : Keep (∀ y : World, Has y (S + 1) 3 (vals .i64 [cy]) → Has y S 3 (vals .i64 [32]) → _) := ⟨fun y (h1 : Has y (S + 1) 3 (vals .i64 [cy])) (h2 : Has y S 3 (vals .i64 [32])) => nextW_up d cy 16 hd0.1 hd0.2 HC.out.1 HC.out.2.1 (by omega) (by omega) hh (S + 1) S y (by omega) h1 h2⟩
        rw [hz] at P2
        clear hp hd ST hd0 hz hh
        go_wp2_with (first
          | (go_at_call 48
             refine (P2.out _ qc10 qb10).mono ?_
             rintro e w11 ⟨rfl, qc11, hfar, hb⟩
             have qb11 := hfar _ _ _ qb10 (by omega)
             have qd11 := hfar _ _ _ qd10 (by have := Nc.out; omega)
             have hb11 := hb10.trans (hb.mono (by omega))
             have c0 := qd11.val (i := k) (by rw [padTo_len (by omega)]; exact hlt)
             have z0 := qd11.frozen k
             clear qb10 qc10 qd10 hb10 hfar hb)
          | (go_at_call 50
             refine (P1.out _ (HR.out _ hb10)).mono ?_
             rintro e w' ⟨rfl, rfl⟩))
        go_roundg i
        case measure => omega
        case rel =>
          have h4 := qd11.set_ k (.int .i64 z)
          rw [vals_set, padTo_set' hlen hlt, ← HZ.out.1, ← tab_snoc] at h4
          rw [HZ.out.1] at h4
          exact ⟨k + 1, 1, by omega, by go_num, ⟨by omega, by omega, HZ.out.2⟩, qb11.far (p := ⟨g, k, none⟩) (by have := Nc.out; show S ≠ g; omega) _, qc11.far (p := ⟨g, k, none⟩) (by have := Nc.out; show S + 1 ≠ g; omega) _, h4, hb11.setCell (p := ⟨g, k, none⟩) (by have := Nc.out; show S ≤ g; omega) _⟩
      · obtain ⟨z, hz⟩ : ∃ z, d + cy = z := ⟨_, rfl⟩
        have HZ : Keep (dg 16 (nxs 16 k v) = z ∧ nxs 16 (k + 1) v = v / tp ((k + 1) * 5) + 0) := ⟨by rw [← hz]; exact ST.2 hh⟩
        have P2 : Keep (∀ y : World, Has y (S + 1) 3 (vals .i64 [cy]) → Has y S 3 (vals .i64 [32]) → _) := ⟨fun y (h1 : Has y (S + 1) 3 (vals .i64 [cy])) (h2 : Has y S 3 (vals .i64 [32])) => nextW_no d cy 16 hd0.1 hd0.2 HC.out.1 HC.out.2.1 (by omega) (by omega) hh (S + 1) S y (by omega) h1 h2⟩
        rw [hz] at P2
        clear hp hd ST hd0 hz hh
        go_wp2_with (first
          | (go_at_call 48
             refine (P2.out _ qc10 qb10).mono ?_
             rintro e w11 ⟨rfl, qc11, hfar, hb⟩
             have qb11 := hfar _ _ _ qb10 (by omega)
             have qd11 := hfar _ _ _ qd10 (by have := Nc.out; omega)
             have hb11 := hb10.trans (hb.mono (by omega))
             have c0 := qd11.val (i := k) (by rw [padTo_len (by omega)]; exact hlt)
             have z0 := qd11.frozen k
             clear qb10 qc10 qd10 hb10 hfar hb)
          | (go_at_call 50
             refine (P1.out _ (HR.out _ hb10)).mono ?_
             rintro e w' ⟨rfl, rfl⟩))
        go_roundg i
        case measure => omega
        case rel =>
          have h4 := qd11.set_ k (.int .i64 z)
          rw [vals_set, padTo_set' hlen hlt, ← HZ.out.1, ← tab_snoc] at h4
          rw [HZ.out.1] at h4
          exact ⟨k + 1, 0, by omega, by go_num, ⟨by omega, by omega, HZ.out.2⟩, qb11.far (p := ⟨g, k, none⟩) (by have := Nc.out; show S ≠ g; omega) _, qc11.far (p := ⟨g, k, none⟩) (by have := Nc.out; show S + 1 ≠ g; omega) _, h4, hb11.setCell (p := ⟨g, k, none⟩) (by have := Nc.out; show S ≤ g; omega) _⟩
    · obtain rfl : N = k := by omega
      have hlen : (tab N (fun k => dg 16 (nxs 16 k v))).length = N := tab_len _ _
      rw [padTo_full hlen] at qd10
      obtain ⟨u, hu⟩ : ∃ u, nxs 16 q v = u := ⟨_, rfl⟩
      have hub := HE.out.2
      rw [hu] at hub
      have hsm := dg_small hub.1 hub.2.1 (by omega)
      have c0 := qd10.val (i := q) (by rw [hlen]; omega)
      rw [tab_nth _ (by omega), hu, hsm.1] at c0
      have hqi2 : (N : Int) - 1 = (q : Int) := by omega
      have HOW := Own.of_has (base := S) qd10 (by have := Nc.out; omega) (by rw [hlen]; unfold maxLen; omega)
      rw [hlen] at HOW
      have HOW' : Keep _ := ⟨HOW⟩
      clear HOW
      by_cases h0 : u = 0
      · have h0' : (u == 0) = true := by rw [h0]; rfl
        have HFIN : Keep (digs 16 (64 * n) v = tab q (fun k => dg 16 (nxs 16 k v))) := ⟨digs_tab 16 q (64 * n) v HE.out.1 (by rw [hu, h0]) (by have := HL.out; have := hub.2.2.2; omega)⟩
        have HO2 : Keep _ := ⟨HOW'.out.cut (m := q) (by omega)⟩
        subst h0
        clear hsm hu hub qd10 qc10 qb10 hlen
        go_wp2
        go_ret2
        exact ⟨some ⟨g, 0, none⟩, q, N, rfl, by rw [HS.out, HFIN.out, ← tab_take N q _ (by omega)]; exact HO2.out, by rw [HS.out]; exact hb10⟩
      · have h0' : (u == 0) = false := by rw [beq_eq_false_iff_ne]; exact h0
        have HFIN : Keep (digs 16 (64 * n) v = tab N (fun k => dg 16 (nxs 16 k v))) := ⟨digs_tab 16 N (64 * n) v (fun k hk => by
          rcases Nat.lt_or_ge k q with h | h
          · exact HE.out.1 k h
          · obtain rfl : k = q := by omega
            rw [hu]
            exact h0) (by rw [← hN, nxs, hu, hsm.2]) (by have := HL.out; have := hub.2.2.1 h0; omega)⟩
        clear hsm hu hub qd10 qc10 qb10 hlen
        go_wp2
        go_ret2
        exact ⟨some ⟨g, 0, none⟩, N, N, rfl, by rw [HS.out, HFIN.out]; exact HOW'.out, by rw [HS.out]; exact hb10⟩

set_option maxRecDepth 100000 in
set_option maxHeartbeats 4000000 in
theorem frWindows_6 (A : Option Addr) (n c : Nat) (l : List Int) (B : Nat) (w : World) (hr : Rd w B A n .u64 l) (hwl : Words l) (hB : B ≤ w.heap.size) (hn : n ≤ 10000) : Calls Try.prog 30 #[.slice A n c, .int .i64 6] w fun e w' => ∃ A' m c', e = .returned (.tuple #[.slice A' m c', .int .i64 0]) ∧ Own w' w.heap.size 3 .i64 A' m c' (digs 32 (64 * n) (num l)) ∧ Below w.heap.size w w' := by
  obtain ⟨S, hS⟩ : ∃ S, w.heap.size = S := ⟨_, rfl⟩
  have HW : Keep (Words l) := ⟨hwl⟩
  have HN : Keep (n ≤ 10000) := ⟨hn⟩
  have HB : Keep (B ≤ S) := ⟨by omega⟩
  have HWD : Keep (tp 6 = 2 * 32) := ⟨rfl⟩
  obtain ⟨v, hv⟩ : ∃ v, num l = v := ⟨_, rfl⟩
  have HV : Keep (num l = v) := ⟨hv⟩
  have qb0 : Has ((w.alloc (.cells (vals .i64 [0]) 3)).alloc (.cells (vals .i64 [0]) 3)) S 3 (vals .i64 [0]) := (Has.new' _ hS.symm _ _).alloc _
  have qc0 : Has ((w.alloc (.cells (vals .i64 [0]) 3)).alloc (.cells (vals .i64 [0]) 3)) (S + 1) 3 (vals .i64 [0]) := Has.new' _ (by simp only [World.size_alloc, hS]) _ _
  have hb0 : Below S w ((w.alloc (.cells (vals .i64 [0]) 3)).alloc (.cells (vals .i64 [0]) 3)) := by rw [← hS]; exact ((Below.refl _ _).alloc (Nat.le_refl _) _).alloc (by simp) _
  have HR : Keep (∀ x : World, Below S w x → Rd x B A n .u64 l) := ⟨fun x hb => hr.keep hb HB.out⟩
  have HS : Keep (w.heap.size = S) := ⟨hS⟩
  have HSS : Keep (∀ x : World, Below S w x → S ≤ x.heap.size) := ⟨fun x hb => by have := hb.size; omega⟩
  rw [hv]
  clear hwl hn hB hr hv
  go_enter Try.func30, Try.ntmps30
  go_wp2_with (first
    | (refine store_word_ (by rfl) 3 (.tmp 7) (.const (.int .i64 0)) (by rfl) (by rfl) (S + 1) 0 (by rfl) .i64 0 (by rfl) (by kernel_rfl) 3 [0] qc1 (by decide) [0] (by rfl) ?_
       intro w2 qc2 ho
       have qb2 := ho.has qb1 (by omega)
       have hb2 := hb1.trans (ho.below (B := S) (by omega) (HSS.out _ hb1))
       clear ho qc1 qb1 hb1)
    | (refine store_word_ (by rfl) 3 (.tmp 6) (.tmp 19) (by rfl) (by rfl) S 0 (by rfl) .i64 64 (by rfl) (by kernel_rfl) 3 [0] qb0 (by decide) [64] (by rfl) ?_
       intro w1 qb1 ho
       have qc1 := ho.has qc0 (by omega)
       have hb1 := hb0.trans (ho.below (B := S) (Nat.le_refl _) (HSS.out _ hb0))
       clear ho qc0 qb0 hb0)
    | (have hq0 := hb2
       clear hq0
       go_at_call 49
       refine (bitLen_c A n c l B w2 (HR.out _ hb2) HW.out HN.out).mono ?_
       rintro e w' ⟨L, rfl, hBl, hL64, rfl⟩
       rw [HV.out] at hBl
       obtain ⟨q, hq⟩ : ∃ q, L / 6 = q := ⟨_, rfl⟩
       obtain ⟨N, hN⟩ : ∃ N, q + 1 = N := ⟨_, rfl⟩
       have HE : Keep _ := ⟨nxs_ends HWD.out (by omega) (by omega) hBl hq⟩
       have HL : Keep (L ≤ 64 * n) := ⟨hL64⟩
       have hqi : (L : Int) / 6 = (q : Int) := by omega
       have hNi : (q : Int) + 1 = (N : Int) := by omega
       have hNb : N ≤ 320001 := by have := HN.out; omega
       have hLb : L ≤ 640000 := by have := HN.out; omega
       have hmk : ∀ w, (Instr.makeSlice 40 (.int .i64 N) (.int .i64 N)).run Try.prog w = .ok (.slice (some ⟨w.heap.size, 0, none⟩) N N) (w.alloc (.cells (vals .i64 (List.replicate N 0)) 3)) := fun w => run_make_vals w _ _ .i64 Try.underlying40 i64Elem .i64 .i64 N (by omega) (by omega)
       clear hq hBl hL64))
  have qd0 : Has (w2.alloc (.cells (vals .i64 (List.replicate N 0)) 3)) w2.heap.size 3 (vals .i64 (padTo N (tab 0 (fun k => dg 32 (nxs 32 k v))))) := by rw [show tab 0 (fun k => dg 32 (nxs 32 k v)) = [] from rfl, padTo_nil]; exact Has.new _ _ _
  have qb3 := qb2.alloc (.cells (vals .i64 (List.replicate N 0)) 3)
  have qc3 := qc2.alloc (.cells (vals .i64 (List.replicate N 0)) 3)
  have hb3 := hb2.alloc (HSS.out _ hb2) (.cells (vals .i64 (List.replicate N 0)) 3)
  have Nc : Keep (S + 1 < w2.heap.size) := ⟨qc2.lt⟩
  obtain ⟨g, hg⟩ : ∃ g, w2.heap.size = g := ⟨_, rfl⟩
  rw [hg] at qd0 Nc ⊢
  clear qb2 qc2 hmk
  go_loopg [29] N (fun (gk : Nat) vi w10 => ∃ (k : Nat) (cy : Int), k + gk = N ∧ vi = .int .i64 k ∧ Keep (0 ≤ cy ∧ cy ≤ 1 ∧ nxs 32 k v = v / tp (k * 6) + cy) ∧ Has w10 S 3 (vals .i64 [64]) ∧ Has w10 (S + 1) 3 (vals .i64 [cy]) ∧ Has w10 g 3 (vals .i64 (padTo N (tab k (fun k => dg 32 (nxs 32 k v))))) ∧ Below S w w10)
  case atStart => exact ⟨0, 0, by omega, rfl, ⟨by omega, by omega, by rw [Nat.zero_mul, tp_zero, Int.ediv_one, Int.add_zero]; rfl⟩, qb3, qc3, qd0, hb3⟩
  case round =>
    clear qb3 qc3 qd0 hb3 hb2 hg
    obtain ⟨k, cy, hk, rfl, HC, qb10, qc10, qd10, hb10⟩ := hrel
    by_cases hlt : k < N
    · obtain ⟨i, rfl⟩ : ∃ i, gk = i + 1 := ⟨gk - 1, by omega⟩
      obtain ⟨p, hp⟩ : ∃ p, k * 6 = p := ⟨_, rfl⟩
      have hpi : (k : Int) * 6 = (p : Int) := by omega
      have hpb : p ≤ 1000000 := by omega
      obtain ⟨d, hd⟩ : ∃ d, v / tp (k * 6) % 64 = d := ⟨_, rfl⟩
      have hd0 : 0 ≤ d ∧ d < 2 * 32 := by omega
      have ST := nxs_step (W := 6) HWD.out (by omega) HC.out.1 HC.out.2.1 HC.out.2.2 hd
      have P1 : Keep (∀ y : World, Rd y B A n .u64 l → Calls Try.prog 50 #[.slice A n c, .int .i64 (p : Int), .int .i64 6] y fun e y' => e = .returned (.int .i64 d) ∧ y = y') := ⟨fun y h => by
        have h1 := digitAt_6 A n c l B y h HW.out HN.out p hpb
        rw [HV.out, ← hp, hd] at h1
        rw [← hp]
        exact h1⟩
      have hlen : (tab k (fun k => dg 32 (nxs 32 k v))).length = k := tab_len _ _
      by_cases hh : 32 < d + cy
      · obtain ⟨z, hz⟩ : ∃ z, d + cy - 2 * 32 = z := ⟨_, rfl⟩
        have HZ : Keep (dg 32 (nxs 32 k v) = z ∧ nxs 32 (k + 1) v = v / tp ((k + 1) * 6) + 1) := ⟨by rw [← hz]; exact ST.1 hh⟩
        have P2 : Keep (∀ y : World, Has y (S + 1) 3 (vals .i64 [cy]) → Has y S 3 (vals .i64 [64]) → _) := ⟨fun y (h1 : Has y (S + 1) 3 (vals .i64 [cy])) (h2 : Has y S 3 (vals .i64 [64])) => nextW_up d cy 32 hd0.1 hd0.2 HC.out.1 HC.out.2.1 (by omega) (by omega) hh (S + 1) S y (by omega) h1 h2⟩
        rw [hz] at P2
        clear hp hd ST hd0 hz hh
        go_wp2_with (first
          | (go_at_call 48
             refine (P2.out _ qc10 qb10).mono ?_
             rintro e w11 ⟨rfl, qc11, hfar, hb⟩
             have qb11 := hfar _ _ _ qb10 (by omega)
             have qd11 := hfar _ _ _ qd10 (by have := Nc.out; omega)
             have hb11 := hb10.trans (hb.mono (by omega))
             have c0 := qd11.val (i := k) (by rw [padTo_len (by omega)]; exact hlt)
             have z0 := qd11.frozen k
             clear qb10 qc10 qd10 hb10 hfar hb)
          | (go_at_call 50
             refine (P1.out _ (HR.out _ hb10)).mono ?_
             rintro e w' ⟨rfl, rfl⟩))
        go_roundg i
        case measure => omega
        case rel =>
          have h4 := qd11.set_ k (.int .i64 z)
          rw [vals_set, padTo_set' hlen hlt, ← HZ.out.1, ← tab_snoc] at h4
          rw [HZ.out.1] at h4
          exact ⟨k + 1, 1, by omega, by go_num, ⟨by omega, by omega, HZ.out.2⟩, qb11.far (p := ⟨g, k, none⟩) (by have := Nc.out; show S ≠ g; omega) _, qc11.far (p := ⟨g, k, none⟩) (by have := Nc.out; show S + 1 ≠ g; omega) _, h4, hb11.setCell (p := ⟨g, k, none⟩) (by have := Nc.out; show S ≤ g; omega) _⟩
      · obtain ⟨z, hz⟩ : ∃ z, d + cy = z := ⟨_, rfl⟩
        have HZ : Keep (dg 32 (nxs 32 k v) = z ∧ nxs 32 (k + 1) v = v / tp ((k + 1) * 6) + 0) := ⟨by rw [← hz]; exact ST.2 hh⟩
        have P2 : Keep (∀ y : World, Has y (S + 1) 3 (vals .i64 [cy]) → Has y S 3 (vals .i64 [64]) → _) := ⟨fun y (h1 : Has y (S + 1) 3 (vals .i64 [cy])) (h2 : Has y S 3 (vals .i64 [64])) => nextW_no d cy 32 hd0.1 hd0.2 HC.out.1 HC.out.2.1 (by omega) (by omega) hh (S + 1) S y (by omega) h1 h2⟩
        rw [hz] at P2
        clear hp hd ST hd0 hz hh
        go_wp2_with (first
          | (go_at_call 48
             refine (P2.out _ qc10 qb10).mono ?_
             rintro e w11 ⟨rfl, qc11, hfar, hb⟩
             have qb11 := hfar _ _ _ qb10 (by omega)
             have qd11 := hfar _ _ _ qd10 (by have := Nc.out; omega)
             have hb11 := hb10.trans (hb.mono (by omega))
             have c0 := qd11.val (i := k) (by rw [padTo_len (by omega)]; exact hlt)
             have z0 := qd11.frozen k
             clear qb10 qc10 qd10 hb10 hfar hb)
          | (go_at_call 50
             refine (P1.out _ (HR.out _ hb10)).mono ?_
             rintro e w' ⟨rfl, rfl⟩))
        go_roundg i
        case measure => omega
        case rel =>
          have h4 := qd11.set_ k (.int .i64 z)
          rw [vals_set, padTo_set' hlen hlt, ← HZ.out.1, ← tab_snoc] at h4
          rw [HZ.out.1] at h4
          exact ⟨k + 1, 0, by omega, by go_num, ⟨by omega, by omega, HZ.out.2⟩, qb11.far (p := ⟨g, k, none⟩) (by have := Nc.out; show S ≠ g; omega) _, qc11.far (p := ⟨g, k, none⟩) (by have := Nc.out; show S + 1 ≠ g; omega) _, h4, hb11.setCell (p := ⟨g, k, none⟩) (by have := Nc.out; show S ≤ g; omega) _⟩
    · obtain rfl : N = k := by omega
      have hlen : (tab N (fun k => dg 32 (nxs 32 k v))).length = N := tab_len _ _
      rw [padTo_full hlen] at qd10
      obtain ⟨u, hu⟩ : ∃ u, nxs 32 q v = u := ⟨_, rfl⟩
      have hub := HE.out.2
      rw [hu] at hub
      have hsm := dg_small hub.1 hub.2.1 (by omega)
      have c0 := qd10.val (i := q) (by rw [hlen]; omega)
      rw [tab_nth _ (by omega), hu, hsm.1] at c0
      have hqi2 : (N : Int) - 1 = (q : Int) := by omega
      have HOW := Own.of_has (base := S) qd10 (by have := Nc.out; omega) (by rw [hlen]; unfold maxLen; omega)
      rw [hlen] at HOW
      have HOW' : Keep _ := ⟨HOW⟩
      clear HOW
      by_cases h0 : u = 0
      · have h0' : (u == 0) = true := by rw [h0]; rfl
        have HFIN : Keep (digs 32 (64 * n) v = tab q (fun k => dg 32 (nxs 32 k v))) := ⟨digs_tab 32 q (64 * n) v HE.out.1 (by rw [hu, h0]) (by have := HL.out; have := hub.2.2.2; omega)⟩
        have HO2 : Keep _ := ⟨HOW'.out.cut (m := q) (by omega)⟩
        subst h0
        clear hsm hu hub qd10 qc10 qb10 hlen
        go_wp2
        go_ret2
        exact ⟨some ⟨g, 0, none⟩, q, N, rfl, by rw [HS.out, HFIN.out, ← tab_take N q _ (by omega)]; exact HO2.out, by rw [HS.out]; exact hb10⟩
      · have h0' : (u == 0) = false := by rw [beq_eq_false_iff_ne]; exact h0
        have HFIN : Keep (digs 32 (64 * n) v = tab N (fun k => dg 32 (nxs 32 k v))) := ⟨digs_tab 32 N (64 * n) v (fun k hk => by
          rcases Nat.lt_or_ge k q with h | h
          · exact HE.out.1 k h
          · obtain rfl : k = q := by omega
            rw [hu]
            exact h0) (by rw [← hN, nxs, hu, hsm.2]) (by have := HL.out; have := hub.2.2.1 h0; omega)⟩
        clear hsm hu hub qd10 qc10 qb10 hlen
        go_wp2
        go_ret2
        exact ⟨some ⟨g, 0, none⟩, N, N, rfl, by rw [HS.out, HFIN.out]; exact HOW'.out, by rw [HS.out]; exact hb10⟩

set_option maxRecDepth 100000 in
set_option maxHeartbeats 4000000 in
theorem frWindows_7 (A : Option Addr) (n c : Nat) (l : List Int) (B : Nat) (w : World) (hr : Rd w B A n .u64 l) (hwl : Words l) (hB : B ≤ w.heap.size) (hn : n ≤ 10000) : Calls Try.prog 30 #[.slice A n c, .int .i64 7] w fun e w' => ∃ A' m c', e = .returned (.tuple #[.slice A' m c', .int .i64 0]) ∧ Own w' w.heap.size 3 .i64 A' m c' (digs 64 (64 * n) (num l)) ∧ Below w.heap.size w w' := by
  obtain ⟨S, hS⟩ : ∃ S, w.heap.size = S := ⟨_, rfl⟩
  have HW : Keep (Words l) := ⟨hwl⟩
  have HN : Keep (n ≤ 10000) := ⟨hn⟩
  have HB : Keep (B ≤ S) := ⟨by omega⟩
  have HWD : Keep (tp 7 = 2 * 64) := ⟨rfl⟩
  obtain ⟨v, hv⟩ : ∃ v, num l = v := ⟨_, rfl⟩
  have HV : Keep (num l = v) := ⟨hv⟩
  have qb0 : Has ((w.alloc (.cells (vals .i64 [0]) 3)).alloc (.cells (vals .i64 [0]) 3)) S 3 (vals .i64 [0]) := (Has.new' _ hS.symm _ _).alloc _
  have qc0 : Has ((w.alloc (.cells (vals .i64 [0]) 3)).alloc (.cells (vals .i64 [0]) 3)) (S + 1) 3 (vals .i64 [0]) := Has.new' _ (by simp only [World.size_alloc, hS]) _ _
  have hb0 : Below S w ((w.alloc (.cells (vals .i64 [0]) 3)).alloc (.cells (vals .i64 [0]) 3)) := by rw [← hS]; exact ((Below.refl _ _).alloc (Nat.le_refl _) _).alloc (by simp) _
  have HR : Keep (∀ x : World, Below S w x → Rd x B A n .u64 l) := ⟨fun x hb => hr.keep hb HB.out⟩
  have HS : Keep (w.heap.size = S) := ⟨hS⟩
  have HSS : Keep (∀ x : World, Below S w x → S ≤ x.heap.size) := ⟨fun x hb => by have := hb.size; omega⟩
  rw [hv]
  clear hwl hn hB hr hv
  go_enter Try.func30, Try.ntmps30
  go_wp2_with (first
    | (refine store_word_ (by rfl) 3 (.tmp 7) (.const (.int .i64 0)) (by rfl) (by rfl) (S + 1) 0 (by rfl) .i64 0 (by rfl) (by kernel_rfl) 3 [0] qc1 (by decide) [0] (by rfl) ?_
       intro w2 qc2 ho
       have qb2 := ho.has qb1 (by omega)
       have hb2 := hb1.trans (ho.below (B := S) (by omega) (HSS.out _ hb1))
       clear ho qc1 qb1 hb1)
    | (refine store_word_ (by rfl) 3 (.tmp 6) (.tmp 19) (by rfl) (by rfl) S 0 (by rfl) .i64 128 (by rfl) (by kernel_rfl) 3 [0] qb0 (by decide) [128] (by rfl) ?_
       intro w1 qb1 ho
       have qc1 := ho.has qc0 (by omega)
       have hb1 := hb0.trans (ho.below (B := S) (Nat.le_refl _) (HSS.out _ hb0))
       clear ho qc0 qb0 hb0)
    | (have hq0 := hb2
       clear hq0
       go_at_call 49
       refine (bitLen_c A n c l B w2 (HR.out _ hb2) HW.out HN.out).mono ?_
       rintro e w' ⟨L, rfl, hBl, hL64, rfl⟩
       rw [HV.out] at hBl
       obtain ⟨q, hq⟩ : ∃ q, L / 7 = q := ⟨_, rfl⟩
       obtain ⟨N, hN⟩ : ∃ N, q + 1 = N := ⟨_, rfl⟩
       have HE : Keep _ := ⟨nxs_ends HWD.out (by omega) (by omega) hBl hq⟩
       have HL : Keep (L ≤ 64 * n) := ⟨hL64⟩
       have hqi : (L : Int) / 7 = (q : Int) := by omega
       have hNi : (q : Int) + 1 = (N : Int) := by omega
       have hNb : N ≤ 320001 := by have := HN.out; omega
       have hLb : L ≤ 640000 := by have := HN.out; omega
       have hmk : ∀ w, (Instr.makeSlice 40 (.int .i64 N) (.int .i64 N)).run Try.prog w = .ok (.slice (some ⟨w.heap.size, 0, none⟩) N N) (w.alloc (.cells (vals .i64 (List.replicate N 0)) 3)) := fun w => run_make_vals w _ _ .i64 Try.underlying40 i64Elem .i64 .i64 N (by omega) (by omega)
       clear hq hBl hL64))
  have qd0 : Has (w2.alloc (.cells (vals .i64 (List.replicate N 0)) 3)) w2.heap.size 3 (vals .i64 (padTo N (tab 0 (fun k => dg 64 (nxs 64 k v))))) := by rw [show tab 0 (fun k => dg 64 (nxs 64 k v)) = [] from rfl, padTo_nil]; exact Has.new _ _ _
  have qb3 := qb2.alloc (.cells (vals .i64 (List.replicate N 0)) 3)
  have qc3 := qc2.alloc (.cells (vals .i64 (List.replicate N 0)) 3)
  have hb3 := hb2.alloc (HSS.out _ hb2) (.cells (vals .i64 (List.replicate N 0)) 3)
  have Nc : Keep (S + 1 < w2.heap.size) := ⟨qc2.lt⟩
  obtain ⟨g, hg⟩ : ∃ g, w2.heap.size = g := ⟨_, rfl⟩
  rw [hg] at qd0 Nc ⊢
  clear qb2 qc2 hmk
  go_loopg [29] N (fun (gk : Nat) vi w10 => ∃ (k : Nat) (cy : Int), k + gk = N ∧ vi = .int .i64 k ∧ Keep (0 ≤ cy ∧ cy ≤ 1 ∧ nxs 64 k v = v / tp (k * 7) + cy) ∧ Has w10 S 3 (vals .i64 [128]) ∧ Has w10 (S + 1) 3 (vals .i64 [cy]) ∧ Has w10 g 3 (vals .i64 (padTo N (tab k (fun k => dg 64 (nxs 64 k v))))) ∧ Below S w w10)
  case atStart => exact ⟨0, 0, by omega, rfl, ⟨by omega, by omega, by rw [Nat.zero_mul, tp_zero, Int.ediv_one, Int.add_zero]; rfl⟩, qb3, qc3, qd0, hb3⟩
  case round =>
    clear qb3 qc3 qd0 hb3 hb2 hg
    obtain ⟨k, cy, hk, rfl, HC, qb10, qc10, qd10, hb10⟩ := hrel
    by_cases hlt : k < N
    · obtain ⟨i, rfl⟩ : ∃ i, gk = i + 1 := ⟨gk - 1, by omega⟩
      obtain ⟨p, hp⟩ : ∃ p, k * 7 = p := ⟨_, rfl⟩
      have hpi : (k : Int) * 7 = (p : Int) := by omega
      have hpb : p ≤ 1000000 := by omega
      obtain ⟨d, hd⟩ : ∃ d, v / tp (k * 7) % 128 = d := ⟨_, rfl⟩
      have hd0 : 0 ≤ d ∧ d < 2 * 64 := by omega
      have ST := nxs_step (W := 7) HWD.out (by omega) HC.out.1 HC.out.2.1 HC.out.2.2 hd
      have P1 : Keep (∀ y : World, Rd y B A n .u64 l → Calls Try.prog 50 #[.slice A n c, .int .i64 (p : Int), .int .i64 7] y fun e y' => e = .returned (.int .i64 d) ∧ y = y') := ⟨fun y h => by
        have h1 := digitAt_7 A n c l B y h HW.out HN.out p hpb
        rw [HV.out, ← hp, hd] at h1
        rw [← hp]
        exact h1⟩
      have hlen : (tab k (fun k => dg 64 (nxs 64 k v))).length = k := tab_len _ _
      by_cases hh : 64 < d + cy
      · obtain ⟨z, hz⟩ : ∃ z, d + cy - 2 * 64 = z := ⟨_, rfl⟩
        have HZ : Keep (dg 64 (nxs 64 k v) = z ∧ nxs 64 (k + 1) v = v / tp ((k + 1) * 7) + 1) := ⟨by rw [← hz]; exact ST.1 hh⟩
        have P2 : Keep (∀ y : World, Has y (S + 1) 3 (vals .i64 [cy]) → Has y S 3 (vals .i64 [128]) → _) := ⟨fun y (h1 : Has y (S + 1) 3 (vals .i64 [cy])) (h2 : Has y S 3 (vals .i64 [128])) => nextW_up d cy 64 hd0.1 hd0.2 HC.out.1 HC.out.2.1 (by omega) (by omega) hh (S + 1) S y (by omega) h1 h2⟩
        rw [hz] at P2
        clear hp hd ST hd0 hz hh
        go_wp2_with (first
          | (go_at_call 48
             refine (P2.out _ qc10 qb10).mono ?_
             rintro e w11 ⟨rfl, qc11, hfar, hb⟩
             have qb11 := hfar _ _ _ qb10 (by omega)
             have qd11 := hfar _ _ _ qd10 (by have := Nc.out; omega)
             have hb11 := hb10.trans (hb.mono (by omega))
             have c0 := qd11.val (i := k) (by rw [padTo_len (by omega)]; exact hlt)
             have z0 := qd11.frozen k
             clear qb10 qc10 qd10 hb10 hfar hb)
          | (go_at_call 50
             refine (P1.out _ (HR.out _ hb10)).mono ?_
             rintro e w' ⟨rfl, rfl⟩))
        go_roundg i
        case measure => omega
        case rel =>
          have h4 := qd11.set_ k (.int .i64 z)
          rw [vals_set, padTo_set' hlen hlt, ← HZ.out.1, ← tab_snoc] at h4
          rw [HZ.out.1] at h4
          exact ⟨k + 1, 1, by omega, by go_num, ⟨by omega, by omega, HZ.out.2⟩, qb11.far (p := ⟨g, k, none⟩) (by have := Nc.out; show S ≠ g; omega) _, qc11.far (p := ⟨g, k, none⟩) (by have := Nc.out; show S + 1 ≠ g; omega) _, h4, hb11.setCell (p := ⟨g, k, none⟩) (by have := Nc.out; show S ≤ g; omega) _⟩
      · obtain ⟨z, hz⟩ : ∃ z, d + cy = z := ⟨_, rfl⟩
        have HZ : Keep (dg 64 (nxs 64 k v) = z ∧ nxs 64 (k + 1) v = v / tp ((k + 1) * 7) + 0) := ⟨by rw [← hz]; exact ST.2 hh⟩
        have P2 : Keep (∀ y : World, Has y (S + 1) 3 (vals .i64 [cy]) → Has y S 3 (vals .i64 [128]) → _) := ⟨fun y (h1 : Has y (S + 1) 3 (vals .i64 [cy])) (h2 : Has y S 3 (vals .i64 [128])) => nextW_no d cy 64 hd0.1 hd0.2 HC.out.1 HC.out.2.1 (by omega) (by omega) hh (S + 1) S y (by omega) h1 h2⟩
        rw [hz] at P2
        clear hp hd ST hd0 hz hh
        go_wp2_with (first
          | (go_at_call 48
             refine (P2.out _ qc10 qb10).mono ?_
             rintro e w11 ⟨rfl, qc11, hfar, hb⟩
             have qb11 := hfar _ _ _ qb10 (by omega)
             have qd11 := hfar _ _ _ qd10 (by have := Nc.out; omega)
             have hb11 := hb10.trans (hb.mono (by omega))
             have c0 := qd11.val (i := k) (by rw [padTo_len (by omega)]; exact hlt)
             have z0 := qd11.frozen k
             clear qb10 qc10 qd10 hb10 hfar hb)
          | (go_at_call 50
             refine (P1.out _ (HR.out _ hb10)).mono ?_
             rintro e w' ⟨rfl, rfl⟩))
        go_roundg i
        case measure => omega
        case rel =>
          have h4 := qd11.set_ k (.int .i64 z)
          rw [vals_set, padTo_set' hlen hlt, ← HZ.out.1, ← tab_snoc] at h4
          rw [HZ.out.1] at h4
          exact ⟨k + 1, 0, by omega, by go_num, ⟨by omega, by omega, HZ.out.2⟩, qb11.far (p := ⟨g, k, none⟩) (by have := Nc.out; show S ≠ g; omega) _, qc11.far (p := ⟨g, k, none⟩) (by have := Nc.out; show S + 1 ≠ g; omega) _, h4, hb11.setCell (p := ⟨g, k, none⟩) (by have := Nc.out; show S ≤ g; omega) _⟩
    · obtain rfl : N = k := by omega
      have hlen : (tab N (fun k => dg 64 (nxs 64 k v))).length = N := tab_len _ _
      rw [padTo_full hlen] at qd10
      obtain ⟨u, hu⟩ : ∃ u, nxs 64 q v = u := ⟨_, rfl⟩
      have hub := HE.out.2
      rw [hu] at hub
      have hsm := dg_small hub.1 hub.2.1 (by omega)
      have c0 := qd10.val (i := q) (by rw [hlen]; omega)
      rw [tab_nth _ (by omega), hu, hsm.1] at c0
      have hqi2 : (N : Int) - 1 = (q : Int) := by omega
      have HOW := Own.of_has (base := S) qd10 (by have := Nc.out; omega) (by rw [hlen]; unfold maxLen; omega)
      rw [hlen] at HOW
      have HOW' : Keep _ := ⟨HOW⟩
      clear HOW
      by_cases h0 : u = 0
      · have h0' : (u == 0) = true := by rw [h0]; rfl
        have HFIN : Keep (digs 64 (64 * n) v = tab q (fun k => dg 64 (nxs 64 k v))) := ⟨digs_tab 64 q (64 * n) v HE.out.1 (by rw [hu, h0]) (by have := HL.out; have := hub.2.2.2; omega)⟩
        have HO2 : Keep _ := ⟨HOW'.out.cut (m := q) (by omega)⟩
        subst h0
        clear hsm hu hub qd10 qc10 qb10 hlen
        go_wp2
        go_ret2
        exact ⟨some ⟨g, 0, none⟩, q, N, rfl, by rw [HS.out, HFIN.out, ← tab_take N q _ (by omega)]; exact HO2.out, by rw [HS.out]; exact hb10⟩
      · have h0' : (u == 0) = false := by rw [beq_eq_false_iff_ne]; exact h0
        have HFIN : Keep (digs 64 (64 * n) v = tab N (fun k => dg 64 (nxs 64 k v))) := ⟨digs_tab 64 N (64 * n) v (fun k hk => by
          rcases Nat.lt_or_ge k q with h | h
          · exact HE.out.1 k h
          · obtain rfl : k = q := by omega
            rw [hu]
            exact h0) (by rw [← hN, nxs, hu, hsm.2]) (by have := HL.out; have := hub.2.2.1 h0; omega)⟩
        clear hsm hu hub qd10 qc10 qb10 hlen
        go_wp2
        go_ret2
        exact ⟨some ⟨g, 0, none⟩, N, N, rfl, by rw [HS.out, HFIN.out]; exact HOW'.out, by rw [HS.out]; exact hb10⟩

set_option maxRecDepth 100000 in
set_option maxHeartbeats 4000000 in
theorem frWindows_8 (A : Option Addr) (n c : Nat) (l : List Int) (B : Nat) (w : World) (hr : Rd w B A n .u64 l) (hwl : Words l) (hB : B ≤ w.heap.size) (hn : n ≤ 10000) : Calls Try.prog 30 #[.slice A n c, .int .i64 8] w fun e w' => ∃ A' m c', e = .returned (.tuple #[.slice A' m c', .int .i64 0]) ∧ Own w' w.heap.size 3 .i64 A' m c' (digs 128 (64 * n) (num l)) ∧ Below w.heap.size w w' := by
  obtain ⟨S, hS⟩ : ∃ S, w.heap.size = S := ⟨_, rfl⟩
  have HW : Keep (Words l) := ⟨hwl⟩
  have HN : Keep (n ≤ 10000) := ⟨hn⟩
  have HB : Keep (B ≤ S) := ⟨by omega⟩
  have HWD : Keep (tp 8 = 2 * 128) := ⟨rfl⟩
  obtain ⟨v, hv⟩ : ∃ v, num l = v := ⟨_, rfl⟩
  have HV : Keep (num l = v) := ⟨hv⟩
  have qb0 : Has ((w.alloc (.cells (vals .i64 [0]) 3)).alloc (.cells (vals .i64 [0]) 3)) S 3 (vals .i64 [0]) := (Has.new' _ hS.symm _ _).alloc _
  have qc0 : Has ((w.alloc (.cells (vals .i64 [0]) 3)).alloc (.cells (vals .i64 [0]) 3)) (S + 1) 3 (vals .i64 [0]) := Has.new' _ (by simp only [World.size_alloc, hS]) _ _
  have hb0 : Below S w ((w.alloc (.cells (vals .i64 [0]) 3)).alloc (.cells (vals .i64 [0]) 3)) := by rw [← hS]; exact ((Below.refl _ _).alloc (Nat.le_refl _) _).alloc (by simp) _
  have HR : Keep (∀ x : World, Below S w x → Rd x B A n .u64 l) := ⟨fun x hb => hr.keep hb HB.out⟩
  have HS : Keep (w.heap.size = S) := ⟨hS⟩
  have HSS : Keep (∀ x : World, Below S w x → S ≤ x.heap.size) := ⟨fun x hb => by have := hb.size; omega⟩
  rw [hv]
  clear hwl hn hB hr hv
  go_enter Try.func30, Try.ntmps30
  go_wp2_with (first
    | (refine store_word_ (by rfl) 3 (.tmp 7) (.const (.int .i64 0)) (by rfl) (by rfl) (S + 1) 0 (by rfl) .i64 0 (by rfl) (by kernel_rfl) 3 [0] qc1 (by decide) [0] (by rfl) ?_
       intro w2 qc2 ho
       have qb2 := ho.has qb1 (by omega)
       have hb2 := hb1.trans (ho.below (B := S) (by omega) (HSS.out _ hb1))
       clear ho qc1 qb1 hb1)
    | (refine store_word_ (by rfl) 3 (.tmp 6) (.tmp 19) (by rfl) (by rfl) S 0 (by rfl) .i64 256 (by rfl) (by kernel_rfl) 3 [0] qb0 (by decide) [256] (by rfl) ?_
       intro w1 qb1 ho
       have qc1 := ho.has qc0 (by omega)
       have hb1 := hb0.trans (ho.below (B := S) (Nat.le_refl _) (HSS.out _ hb0))
       clear ho qc0 qb0 hb0)
    | (have hq0 := hb2
       clear hq0
       go_at_call 49
       refine (bitLen_c A n c l B w2 (HR.out _ hb2) HW.out HN.out).mono ?_
       rintro e w' ⟨L, rfl, hBl, hL64, rfl⟩
       rw [HV.out] at hBl
       obtain ⟨q, hq⟩ : ∃ q, L / 8 = q := ⟨_, rfl⟩
       obtain ⟨N, hN⟩ : ∃ N, q + 1 = N := ⟨_, rfl⟩
       have HE : Keep _ := ⟨nxs_ends HWD.out (by omega) (by omega) hBl hq⟩
       have HL : Keep (L ≤ 64 * n) := ⟨hL64⟩
       have hqi : (L : Int) / 8 = (q : Int) := by omega
       have hNi : (q : Int) + 1 = (N : Int) := by omega
       have hNb : N ≤ 320001 := by have := HN.out; omega
       have hLb : L ≤ 640000 := by have := HN.out; omega
       have hmk : ∀ w, (Instr.makeSlice 40 (.int .i64 N) (.int .i64 N)).run Try.prog w = .ok (.slice (some ⟨w.heap.size, 0, none⟩) N N) (w.alloc (.cells (vals .i64 (List.replicate N 0)) 3)) := fun w => run_make_vals w _ _ .i64 Try.underlying40 i64Elem .i64 .i64 N (by omega) (by omega)
       clear hq hBl hL64))
  have qd0 : Has (w2.alloc (.cells (vals .i64 (List.replicate N 0)) 3)) w2.heap.size 3 (vals .i64 (padTo N (tab 0 (fun k => dg 128 (nxs 128 k v))))) := by rw [show tab 0 (fun k => dg 128 (nxs 128 k v)) = [] from rfl, padTo_nil]; exact Has.new _ _ _
  have qb3 := qb2.alloc (.cells (vals .i64 (List.replicate N 0)) 3)
  have qc3 := qc2.alloc (.cells (vals .i64 (List.replicate N 0)) 3)
  have hb3 := hb2.alloc (HSS.out _ hb2) (.cells (vals .i64 (List.replicate N 0)) 3)
  have Nc : Keep (S + 1 < w2.heap.size) := ⟨qc2.lt⟩
  obtain ⟨g, hg⟩ : ∃ g, w2.heap.size = g := ⟨_, rfl⟩
  rw [hg] at qd0 Nc ⊢
  clear qb2 qc2 hmk
  go_loopg [29] N (fun (gk : Nat) vi w10 => ∃ (k : Nat) (cy : Int), k + gk = N ∧ vi = .int .i64 k ∧ Keep (0 ≤ cy ∧ cy ≤ 1 ∧ nxs 128 k v = v / tp (k * 8) + cy) ∧ Has w10 S 3 (vals .i64 [256]) ∧ Has w10 (S + 1) 3 (vals .i64 [cy]) ∧ Has w10 g 3 (vals .i64 (padTo N (tab k (fun k => dg 128 (nxs 128 k v))))) ∧ Below S w w10)
  case atStart => exact ⟨0, 0, by omega, rfl, ⟨by omega, by omega, by rw [Nat.zero_mul, tp_zero, Int.ediv_one, Int.add_zero]; rfl⟩, qb3, qc3, qd0, hb3⟩
  case round =>
    clear qb3 qc3 qd0 hb3 hb2 hg
    obtain ⟨k, cy, hk, rfl, HC, qb10, qc10, qd10, hb10⟩ := hrel
    by_cases hlt : k < N
    · obtain ⟨i, rfl⟩ : ∃ i, gk = i + 1 := ⟨gk - 1, by omega⟩
      obtain ⟨p, hp⟩ : ∃ p, k * 8 = p := ⟨_, rfl⟩
      have hpi : (k : Int) * 8 = (p : Int) := by omega
      have hpb : p ≤ 1000000 := by omega
      obtain ⟨d, hd⟩ : ∃ d, v / tp (k * 8) % 256 = d := ⟨_, rfl⟩
      have hd0 : 0 ≤ d ∧ d < 2 * 128 := by omega
      have ST := nxs_step (W := 8) HWD.out (by omega) HC.out.1 HC.out.2.1 HC.out.2.2 hd
      have P1 : Keep (∀ y : World, Rd y B A n .u64 l → Calls Try.prog 50 #[.slice A n c, .int .i64 (p : Int), .int .i64 8] y fun e y' => e = .returned (.int .i64 d) ∧ y = y') := ⟨fun y h => by
        have h1 := digitAt_8 A n c l B y h HW.out HN.out p hpb
        rw [HV.out, ← hp, hd] at h1
        rw [← hp]
        exact h1⟩
      have hlen : (tab k (fun k => dg 128 (nxs 128 k v))).length = k := tab_len _ _
      by_cases hh : 128 < d + cy
      · obtain ⟨z, hz⟩ : ∃ z, d + cy - 2 * 128 = z := ⟨_, rfl⟩
        have HZ : Keep (dg 128 (nxs 128 k v) = z ∧ nxs 128 (k + 1) v = v / tp ((k + 1) * 8) + 1) := ⟨by rw [← hz]; exact ST.1 hh⟩
        have P2 : Keep (∀ y : World, Has y (S + 1) 3 (vals .i64 [cy]) → Has y S 3 (vals .i64 [256]) → _) := ⟨fun y (h1 : Has y (S + 1) 3 (vals .i64 [cy])) (h2 : Has y S 3 (vals .i64 [256])) => nextW_up d cy 128 hd0.1 hd0.2 HC.out.1 HC.out.2.1 (by omega) (by omega) hh (S + 1) S y (by omega) h1 h2⟩
        rw [hz] at P2
        clear hp hd ST hd0 hz hh
        go_wp2_with (first
          | (go_at_call 48
             refine (P2.out _ qc10 qb10).mono ?_
             rintro e w11 ⟨rfl, qc11, hfar, hb⟩
             have qb11 := hfar _ _ _ qb10 (by omega)
             have qd11 := hfar _ _ _ qd10 (by have := Nc.out; omega)
             have hb11 := hb10.trans (hb.mono (by omega))
             have c0 := qd11.val (i := k) (by rw [padTo_len (by omega)]; exact hlt)
             have z0 := qd11.frozen k
             clear qb10 qc10 qd10 hb10 hfar hb)
          | (go_at_call 50
             refine (P1.out _ (HR.out _ hb10)).mono ?_
             rintro e w' ⟨rfl, rfl⟩))
        go_roundg i
        case measure => omega
        case rel =>
          have h4 := qd11.set_ k (.int .i64 z)
          rw [vals_set, padTo_set' hlen hlt, ← HZ.out.1, ← tab_snoc] at h4
          rw [HZ.out.1] at h4
          exact ⟨k + 1, 1, by omega, by go_num, ⟨by omega, by omega, HZ.out.2⟩, qb11.far (p := ⟨g, k, none⟩) (by have := Nc.out; show S ≠ g; omega) _, qc11.far (p := ⟨g, k, none⟩) (by have := Nc.out; show S + 1 ≠ g; omega) _, h4, hb11.setCell (p := ⟨g, k, none⟩) (by have := Nc.out; show S ≤ g; omega) _⟩
      · obtain ⟨z, hz⟩ : ∃ z, d + cy = z := ⟨_, rfl⟩
        have HZ : Keep (dg 128 (nxs 128 k v) = z ∧ nxs 128 (k + 1) v = v / tp ((k + 1) * 8) + 0) := ⟨by rw [← hz]; exact ST.2 hh⟩
        have P2 : Keep (∀ y : World, Has y (S + 1) 3 (vals .i64 [cy]) → Has y S 3 (vals .i64 [256]) → _) := ⟨fun y (h1 : Has y (S + 1) 3 (vals .i64 [cy])) (h2 : Has y S 3 (vals .i64 [256])) => nextW_no d cy 128 hd0.1 hd0.2 HC.out.1 HC.out.2.1 (by omega) (by omega) hh (S + 1) S y (by omega) h1 h2⟩
        rw [hz] at P2
        clear hp hd ST hd0 hz hh
        go_wp2_with (first
          | (go_at_call 48
             refine (P2.out _ qc10 qb10).mono ?_
             rintro e w11 ⟨rfl, qc11, hfar, hb⟩
             have qb11 := hfar _ _ _ qb10 (by omega)
             have qd11 := hfar _ _ _ qd10 (by have := Nc.out; omega)
             have hb11 := hb10.trans (hb.mono (by omega))
             have c0 := qd11.val (i := k) (by rw [padTo_len (by omega)]; exact hlt)
             have z0 := qd11.frozen k
             clear qb10 qc10 qd10 hb10 hfar hb)
          | (go_at_call 50
             refine (P1.out _ (HR.out _ hb10)).mono ?_
             rintro e w' ⟨rfl, rfl⟩))
        go_roundg i
        case measure => omega
        case rel =>
          have h4 := qd11.set_ k (.int .i64 z)
          rw [vals_set, padTo_set' hlen hlt, ← HZ.out.1, ← tab_snoc] at h4
          rw [HZ.out.1] at h4
          exact ⟨k + 1, 0, by omega, by go_num, ⟨by omega, by omega, HZ.out.2⟩, qb11.far (p := ⟨g, k, none⟩) (by have := Nc.out; show S ≠ g; omega) _, qc11.far (p := ⟨g, k, none⟩) (by have := Nc.out; show S + 1 ≠ g; omega) _, h4, hb11.setCell (p := ⟨g, k, none⟩) (by have := Nc.out; show S ≤ g; omega) _⟩
    · obtain rfl : N = k := by omega
      have hlen : (tab N (fun k => dg 128 (nxs 128 k v))).length = N := tab_len _ _
      rw [padTo_full hlen] at qd10
      obtain ⟨u, hu⟩ : ∃ u, nxs 128 q v = u := ⟨_, rfl⟩
      have hub := HE.out.2
      rw [hu] at hub
      have hsm := dg_small hub.1 hub.2.1 (by omega)
      have c0 := qd10.val (i := q) (by rw [hlen]; omega)
      rw [tab_nth _ (by omega), hu, hsm.1] at c0
      have hqi2 : (N : Int) - 1 = (q : Int) := by omega
      have HOW := Own.of_has (base := S) qd10 (by have := Nc.out; omega) (by rw [hlen]; unfold maxLen; omega)
      rw [hlen] at HOW
      have HOW' : Keep _ := ⟨HOW⟩
      clear HOW
      by_cases h0 : u = 0
      · have h0' : (u == 0) = true := by rw [h0]; rfl
        have HFIN : Keep (digs 128 (64 * n) v = tab q (fun k => dg 128 (nxs 128 k v))) := ⟨digs_tab 128 q (64 * n) v HE.out.1 (by rw [hu, h0]) (by have := HL.out; have := hub.2.2.2; omega)⟩
        have HO2 : Keep _ := ⟨HOW'.out.cut (m := q) (by omega)⟩
        subst h0
        clear hsm hu hub qd10 qc10 qb10 hlen
        go_wp2
        go_ret2
        exact ⟨some ⟨g, 0, none⟩, q, N, rfl, by rw [HS.out, HFIN.out, ← tab_take N q _ (by omega)]; exact HO2.out, by rw [HS.out]; exact hb10⟩
      · have h0' : (u == 0) = false := by rw [beq_eq_false_iff_ne]; exact h0
        have HFIN : Keep (digs 128 (64 * n) v = tab N (fun k => dg 128 (nxs 128 k v))) := ⟨digs_tab 128 N (64 * n) v (fun k hk => by
          rcases Nat.lt_or_ge k q with h | h
          · exact HE.out.1 k h
          · obtain rfl : k = q := by omega
            rw [hu]
            exact h0) (by rw [← hN, nxs, hu, hsm.2]) (by have := HL.out; have := hub.2.2.1 h0; omega)⟩
        clear hsm hu hub qd10 qc10 qb10 hlen
        go_wp2
        go_ret2
        exact ⟨some ⟨g, 0, none⟩, N, N, rfl, by rw [HS.out, HFIN.out]; exact HOW'.out, by rw [HS.out]; exact hb10⟩

set_option maxRecDepth 100000 in
set_option maxHeartbeats 2000000 in
theorem frWindows_no (A : Option Addr) (n c : Nat) (v : Int) (w : World) (hv : v < 2 ∨ 8 < v) : Calls Try.prog 30 #[.slice A n c, .int .i64 v] w fun e w' => e = .returned (.tuple #[.slice none 0 0, .int .i64 1]) ∧ Below w.heap.size w w' := by
  have hb := Below.refl w.heap.size w
  rcases hv with hv | hv
  · go_enter Try.func30, Try.ntmps30
    go_wp2
    go_ret2
    exact ⟨rfl, hb⟩
  · go_enter Try.func30, Try.ntmps30
    go_wp2
    go_ret2
    exact ⟨rfl, hb⟩

end Go.Proofs.Ythaoebamnlmfpaa.Fr
