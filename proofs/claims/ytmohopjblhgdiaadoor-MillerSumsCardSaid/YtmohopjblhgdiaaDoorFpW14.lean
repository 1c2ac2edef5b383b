/-
  Own text. The contract of Inv of package fp.
-/
import Derived.Test.YtmohopjblhgdiaaDoorFpW13
import Derived.Test.YtmohopjblhgdiaaDoorFpW8
namespace Go.Proofs.YtmohopjblhgdiaaDoor.Fp
set_option linter.unusedVariables false
set_option linter.unusedSimpArgs false
open Go Go.RowKit Go.Proofs.YtmohopjblhgdiaaDoor.Reg Go.Proofs.YtmohopjblhgdiaaDoor.Base Go.Proofs.YtmohopjblhgdiaaDoor.Limb Go.Proofs.YtmohopjblhgdiaaDoor.Bits

/-- 2^767's inverse. -/
def undL : List Int := [10454859253183940369, 4959273314082530696, 6883765490207098161, 12556295555899814999, 10912384135759873330, 1061470279007220875]
theorem und_words : Words undL := words_of _ (by decide)
theorem und_inv : (2 ^ 767 * num undL) % PP = 1 := by decide +kernel
theorem inv_one {A x y : Int} (hx : (A * x) % PP = 1) (hy : (A * y) % PP = 1) : x % PP = y % PP := by
  have h1 : (x * (A * y)) % PP = x % PP := by rw [Int.mul_emod, hy, Int.mul_one, Int.emod_emod]
  have h2 : ((A * x) * y) % PP = y % PP := by rw [Int.mul_emod, hx, Int.one_mul, Int.emod_emod]
  rw [← h1, ← h2]
  congr 1
  grind
theorem inv_end {x : Int} {s : List Int} {D f : Nat} (hx : x % PP ≠ 0) (hs : (num (fe x) * num s) % PP = 2 ^ D % PP) (hf : D + f = 767) :
    fe (num (fe (num s * num (fe (2 ^ f)))) * num undL) = fe (pw x (PP - 2)) := by
  rw [fe_mulr, fe_mull, ← fe_pw x]
  refine fe_congr (inv_one (A := num (fe x)) ?_ ?_)
  · rw [show num (fe x) * (num s * 2 ^ f * num undL) = (num (fe x) * num s) * (2 ^ f * num undL) by grind, Int.mul_emod, hs, ← Int.mul_emod, ← Int.mul_assoc, ← Int.pow_add, hf]
    exact und_inv
  · exact pw_inverse (by rw [num_fe, Int.emod_emod]; exact hx)
/-- A single bit among noughts. -/
def bitAt (f : Nat) : List Int := (List.replicate 12 (0 : Int)).set (f / 64) (2 ^ (f % 64))
theorem bitAt_spec {f : Nat} (h : f ≤ 767) : (bitAt f).length = 12 ∧ Words (bitAt f) ∧ num (bitAt f) = 2 ^ f := by
  have h1 : f / 64 < 12 := by omega
  have h2 : (2 : Int) ^ (f % 64) < 18446744073709551616 := by
    have h3 := tp_le (show f % 64 ≤ 63 by omega)
    have h4 : tp 63 = 9223372036854775808 := by decide
    have h5 : (2 : Int) ^ (f % 64) = tp (f % 64) := rfl
    omega
  have h0 : (0 : Int) < 2 ^ (f % 64) := Int.pow_pos (by omega)
  refine ⟨by simp [bitAt], words_set (words_zeros 12) (by omega) (by omega), ?_⟩
  rw [bitAt, num_set _ (by simpa using h1), num_zeros]
  have h3 : nth (List.replicate 12 (0 : Int)) (f / 64) = 0 := by unfold nth; rw [List.getD_eq_getElem?_getD, List.getElem?_replicate]; split <;> rfl
  rw [h3, Int.zero_add, Int.sub_zero]
  have h4 := tp_wp (f / 64)
  have h5 : wp (f / 64) * tp (f % 64) = tp f := by
    rw [← h4, ← tp_add]
    congr 1
    omega
  exact h5

set_option maxRecDepth 100000 in
set_option maxHeartbeats 2000000 in
theorem fpInv_c (a : List Int) (hla : a.length = 6) (hwa : Words a) (w : World) (hG : GlobD w) : Calls Tryd.prog 18 #[.agg (vals .u64 a)] w fun e w' => e = .returned (.agg (vals .u64 (fe (pw (num a) (PP - 2))))) ∧ Below w.heap.size w w' := by
  obtain ⟨o, ho⟩ : ∃ o, fe (pw (num a) (PP - 2)) = o := ⟨_, rfl⟩
  have OL : Keep (o.length = 6) := ⟨by rw [← ho]; exact fe_len _⟩
  have LA : Keep _ := ⟨hla⟩
  have WA : Keep _ := ⟨hwa⟩
  obtain ⟨S, hS⟩ : ∃ S, w.heap.size = S := ⟨_, rfl⟩
  have hA0 : Has ((w.alloc (.cells (vals .u64 a) 24)).alloc (.cells (vals .u64 Z6) 24)) S 24 (vals .u64 a) := by exact (Has.new' _ hS.symm _ _).alloc _
  have hR0 : Has ((w.alloc (.cells (vals .u64 a) 24)).alloc (.cells (vals .u64 Z6) 24)) (S + 1) 24 (vals .u64 Z6) := by exact Has.new' _ (by rw [World.size_alloc, hS]) _ _
  have hb0 : Below S w ((w.alloc (.cells (vals .u64 a) 24)).alloc (.cells (vals .u64 Z6) 24)) := by rw [← hS]; exact ((Below.refl _ _).alloc (Nat.le_refl _) _).alloc (by simp) _
  have HG0 : Keep (GlobD ((w.alloc (.cells (vals .u64 a) 24)).alloc (.cells (vals .u64 Z6) 24))) := ⟨hG.keep (by rw [hS]; exact hb0)⟩
  have HS0 : Keep (S ≤ w.heap.size) := ⟨by omega⟩
  have FR : Keep (∀ g, S ≤ g → FreeD g) := ⟨fun g hg => hG.free (by omega)⟩
  have HSS : Keep (∀ w', Below S w w' → S ≤ w'.heap.size) := ⟨fun w' hb => Nat.le_trans HS0.out hb.size⟩
  have hgd := gd6
  rw [ho, hS]
  obtain ⟨x, hx⟩ : ∃ x, fe (num a) = x := ⟨_, rfl⟩
  have LX : Keep (x.length = 6) := ⟨by rw [← hx]; exact fe_len _⟩
  have WX : Keep (Words x) := ⟨by rw [← hx]; exact fe_words _⟩
  have HX : Keep _ := ⟨hx⟩
  clear hla hwa hG
  by_cases hz : x = Z6
  · have FIN : Keep (Z6 = o) := ⟨by
      rw [← ho]
      have : num a % PP = 0 := by
        have h1 : num x = 0 := by rw [hz]; decide +kernel
        rw [← hx, num_fe] at h1
        exact h1
      rw [fe_inv_zero this, fe_zero]⟩
    have E1 := eq6 Z6 rfl
    have HZ : Keep _ := ⟨hz⟩
    clear hz ho hx
    go_enter Tryd.func18, Tryd.ntmps18
    go_wp2_with (first
      | (refine wpList_load_row rfl 24 (.tmp 1) rfl S rfl _ _ _ _ hA1.eq Tryd.underlying24 rfl (by kernel_rfl) ?_)
      | (refine wpList_buildTo (by rfl) 24 #[] (by rfl) (some 10) (by rfl) (vals .u64 Z6) (by kernel_rfl) ?_)
      | (refine wpList_store_rowTo rfl 24 (.tmp 2) (.tmp 12) rfl rfl (S + 1) (vals .u64 Z6) rfl rfl _ _ hR1.eq (by kernel_rfl) (by rfl) vals_one ?_)
      | (go_at_call 31
         refine (fpLower_c S 24 a LA.out WA.out (FR.out _ (Nat.le_refl _)).toFree _ HG0.out.toGlob hA0).mono ?_
         rintro e w1 ⟨rfl, hA1, ho⟩
         rw [HX.out, HZ.out] at hA1
         have hR1 := ho.has hR0 (by omega)
         have hb1 := hb0.trans (ho.below (B := S) (by omega) (HSS.out _ hb0))
         clear ho hA0 hR0 hb0))
    refine bodyPost_ret (v := .agg (vals .u64 Z6)) (results_cell_row rfl _ _ (S + 1) _ _ _ _ rfl (hR1.row _).eq Tryd.underlying24 rfl (by kernel_rfl)) rfl ⟨by rw [FIN.out], below_row hb1 (by omega) _⟩
  · have E1 := eq6_ne x Z6 LX.out rfl hz
    have hn : num a % PP ≠ 0 := fun h => hz (by rw [← hx, (fe_zero_iff _).2 h, fe_zero])
    have h0 : 0 < num x ∧ num x < PP := by rw [← hx, num_fe]; have := fe_mod (num a); omega
    have HN : Keep (0 < num x ∧ num x < PP) := ⟨h0⟩
    have FINF : Keep (∀ (s : List Int) (D f : Nat), (num x * num s) % PP = 2 ^ D % PP → D + f = 767 → fe (num (fe (num s * num (fe (2 ^ f)))) * num undL) = o) := ⟨fun s D f h1 h2 => by rw [← ho]; exact inv_end hn (by rw [hx]; exact h1) h2⟩
    clear hz ho hx hn h0
    go_enter Tryd.func18, Tryd.ntmps18
    go_wp2_with (first
      | (refine store_word (by rfl) 22 (.tmp 26) (.tmp 25) (by rfl) (by rfl) w4.heap.size q (by rfl) .u64 y (by rfl) (by kernel_rfl) 69 (List.replicate 12 0) (Has.new _ _ _) (by rw [List.length_replicate]; exact HQ.out.1) (bitAt f) HQ.out.2 (fun w5 hP5 ho => ?_)
         have hbe : Below w4.heap.size w4 w5 := ((Below.refl w4.heap.size w4).alloc (Nat.le_refl _) (.cells (vals .u64 (List.replicate 12 0)) 69)).trans (ho.below (Nat.le_refl _) (by simp))
         have hI5 := hI4.keep hbe
         have hU5 := hU4.keep hbe
         have hR5 := hR4.keep hbe
         have HG5 : Keep _ := ⟨HG4.out.keep hbe⟩
         have hb5 := hb4.trans (hbe.mono (HSS.out _ hb4))
         have FP : Keep (FreeD w4.heap.size) := ⟨FR.out _ (HSS.out _ hb4)⟩
         have nI : w3.heap.size ≠ w4.heap.size := Nat.ne_of_lt hI4.lt
         have nU : w1.heap.size ≠ w4.heap.size := Nat.ne_of_lt hU4.lt
         have nR : S + 1 ≠ w4.heap.size := Nat.ne_of_lt hR4.lt
         have HS4 : Keep (S ≤ w4.heap.size) := ⟨HSS.out _ hb4⟩
         have NRI : Keep (w3.heap.size ≠ S + 1) := ⟨by have := hR3lt.out; omega⟩
         have NRU : Keep (w1.heap.size ≠ S + 1) := ⟨by have := hR1lt.out; omega⟩
         clear ho hbe hI4 hU4 hR4 HG4 hb4)
      | (refine store_abs2 (by rfl) 24 (.tmp 4) (.tmp 17) (by rfl) (by rfl) w3.heap.size (vals .u64 s) (by rfl) (by rfl) 24 (vals .u64 Z6) (Has.new' _ rfl _ _) (by rw [vals_size, HI.out.1]; kernel_rfl) (by rw [vals_size, vals_size, HI.out.1]; rfl) vals_one ?_
         intro w4 hI4 hkeep hbg
         have hbe := ((Below.refl w3.heap.size w3).alloc (Nat.le_refl _) (.cells (vals .u64 Z6) 24)).trans hbg
         have hU4 := hU3.keep hbe
         have hR4 := hR3.keep hbe
         have HG4 : Keep _ := ⟨HG3.out.keep hbe⟩
         have hb4 := hb3.trans (hbe.mono (HSS.out _ hb3))
         have hR3lt : Keep (S + 1 < w3.heap.size) := ⟨hR3.lt⟩
         obtain ⟨f, hf⟩ : ∃ f : Nat, D + f = 767 := ⟨767 - D, by have := HI.out.2.2.2; omega⟩
         have hfD : (767 : Int) - (D : Int) = (f : Int) := by omega
         have hf767 : f ≤ 767 := by omega
         obtain ⟨q, hq⟩ : ∃ q, f / 64 = q := ⟨_, rfl⟩
         obtain ⟨e2, he2⟩ : ∃ e2, f % 64 = e2 := ⟨_, rfl⟩
         have hqi : (f : Int).tdiv 64 = (q : Int) := by rw [Int.tdiv_eq_ediv_of_nonneg (by omega)]; omega
         have hri : (f : Int).tmod 64 = (e2 : Int) := by rw [Int.tmod_eq_emod_of_nonneg (by omega)]; omega
         have he64 : e2 ≤ 63 := by omega
         have hq12 : q ≤ 11 := by omega
         obtain ⟨y, hy⟩ : ∃ y, (2 : Int) ^ e2 = y := ⟨_, rfl⟩
         have hyw : IntKind.u64.wrap y = y := by
           have h2 := tp_le he64
           have h3 : tp 63 = 9223372036854775808 := by decide
           have h4 : tp e2 = y := hy
           have h5 := tp_pos e2
           rw [IntKind.wrap_u64]
           omega
         have HQ : Keep (q < 12 ∧ (List.replicate 12 (0 : Int)).set q y = bitAt f) := ⟨by omega, by rw [bitAt, hq, he2, hy]⟩
         have HF : Keep (D + f = 767) := ⟨hf⟩
         have HB := bitAt_spec hf767
         have HB' : Keep _ := ⟨HB⟩
         clear hkeep hbg hbe hU3 hR3 hb3 hf hq he2 HB)
      | (go_at_call 41
         refine (doubledInverse_c x LX.out WX.out HN.out.1 HN.out.2 _ HG2.out).mono ?_
         rintro e w3 ⟨s, D, rfl, hls, hws, hsD, hD, hq⟩
         have hU3 := hU2.keep hq
         have hR3 := hR2.keep hq
         have HG3 : Keep _ := ⟨HG2.out.keep hq⟩
         have hb3 := hb2.trans (hq.mono (HSS.out _ hb2))
         have HI : Keep (s.length = 6 ∧ Words s ∧ (num x * num s) % PP = 2 ^ D % PP ∧ D ≤ 767) := ⟨hls, hws, hsD, hD⟩
         clear hq hA2 hU2 hR2 hb2 hls hws hsD hD)
      | (refine wpList_load_row rfl 24 (.tmp 1) rfl S rfl _ _ _ _ hA2.eq Tryd.underlying24 rfl (by rw [vals_size, LX.out]; kernel_rfl) ?_)
      | (refine wpList_buildFlatArrTo rfl 24 22 6 _ rfl .u64 undL (some 13) rfl Tryd.underlying24 (by kernel_rfl) (by kernel_rfl) rfl ?_)
      | (refine store_abs2 (by rfl) 24 (.tmp 3) (.tmp 13) (by rfl) (by rfl) w1.heap.size (vals .u64 undL) (by rfl) (by rfl) 24 (vals .u64 Z6) (Has.new' _ rfl _ _) (by kernel_rfl) (by rfl) vals_one ?_
         intro w2 hU2 hkeep hbg
         have hbe := ((Below.refl w1.heap.size w1).alloc (Nat.le_refl _) (.cells (vals .u64 Z6) 24)).trans hbg
         have hR1lt : Keep (S + 1 < w1.heap.size) := ⟨hR1.lt⟩
         have hA2 := hA1.keep hbe
         have hR2 := hR1.keep hbe
         have HG2 : Keep _ := ⟨HG1.out.keep hbe⟩
         have hb2 := hb1.trans (hbe.mono (HSS.out _ hb1))
         clear hkeep hbg hbe hA1 hR1 hb1 E1)
      | (refine wpList_load_row rfl 24 (.tmp 1) rfl S rfl _ _ _ _ hA1.eq Tryd.underlying24 rfl (by rw [vals_size, LX.out]; kernel_rfl) ?_)
      | (refine wpList_buildTo (by rfl) 24 #[] (by rfl) (some 10) (by rfl) (vals .u64 Z6) (by kernel_rfl) ?_)
      | (go_at_call 31
         refine (fpLower_c S 24 a LA.out WA.out (FR.out _ (Nat.le_refl _)).toFree _ HG0.out.toGlob hA0).mono ?_
         rintro e w1 ⟨rfl, hA1, ho⟩
         rw [HX.out] at hA1
         have hR1 := ho.has hR0 (by omega)
         have HG1 : Keep _ := ⟨HG0.out.only ho (FR.out _ (Nat.le_refl _))⟩
         have hb1 := hb0.trans (ho.below (B := S) (by omega) (HSS.out _ hb0))
         clear ho hA0 hR0 hb0))
    have HS2 : Keep (∀ w w' : World, (Has w w3.heap.size 24 (vals .u64 s) ∧ Has w w1.heap.size 24 (vals .u64 undL)) → Below w.heap.size w w' → (Has w' w3.heap.size 24 (vals .u64 s) ∧ Has w' w1.heap.size 24 (vals .u64 undL))) := ⟨fun w w' h hb => ⟨h.1.keep hb, h.2.keep hb⟩⟩
    have hdr : (Has w5.drew w3.heap.size 24 (vals .u64 s) ∧ Has w5.drew w1.heap.size 24 (vals .u64 undL)) := ⟨hI5.drew, hU5.drew⟩
    have hPd := hP5.drew
    have hRd := hR5.drew
    have HGd : Keep (GlobD w5.drew) := ⟨HG5.out.keep ⟨rfl, rfl, rfl, Nat.le_refl _, fun _ _ => rfl⟩⟩
    have hbd : Below S w w5.drew := hb5.trans ⟨rfl, rfl, rfl, Nat.le_refl _, fun _ _ => rfl⟩
    have FIN : Keep _ := ⟨FINF.out s D f HI.out.2.2.1 HF.out⟩
    clear hI5 hU5 hP5 hR5 HG5 hb5 HG0
    refine wp_regionU (S := fun x => (Has x w3.heap.size 24 (vals .u64 s) ∧ Has x w1.heap.size 24 (vals .u64 undL))) (by kernel_rfl) ?_
    change wpAnyU _ _ _ _ _ 6 _ _ _
    refine wpAnyU_take (i := 0) (v := _) HS2.out (by rfl) (by kernel_rfl) (by kernel_rfl) (by kernel_rfl) (fun _ _ d _ _ h => by cases d <;> exact h) hdr (Steady.load_seg (by rfl) 24 (.tmp 4) (by rfl) w3.heap.size 0 6 (by rfl) 24 .u64 s s _ (fun w hw => hw.1) Tryd.underlying24 rfl (by kernel_rfl) (by rw [List.drop_zero, take_all HI.out.1]) (by rw [HI.out.1]; exact Nat.le_refl _)) ?_
    simp only [List.getElem_toArray, List.getElem_cons_zero, List.getElem_cons_succ, Act.put, List.setIfInBounds_toArray, List.set_cons_zero, List.set_cons_succ]
    refine wpAnyU_take (i := 3) (v := _) HS2.out (by rfl) (by kernel_rfl) (by kernel_rfl) (by kernel_rfl) (fun _ _ d _ _ h => by cases d <;> exact h) hdr (Steady.load_seg (by rfl) 24 (.tmp 3) (by rfl) w1.heap.size 0 6 (by rfl) 24 .u64 undL undL _ (fun w hw => hw.2) Tryd.underlying24 rfl (by kernel_rfl) (by rfl) (by decide)) ?_
    simp only [List.getElem_toArray, List.getElem_cons_zero, List.getElem_cons_succ, Act.put, List.setIfInBounds_toArray, List.set_cons_zero, List.set_cons_succ]
    refine wpAnyU_run (i := 1) (by rfl) (by kernel_rfl) (fun w6 hq => ?_)
    have hP6 := hPd.keep hq
    have hR6 := hRd.keep hq
    have hS6 := HS2.out _ _ hdr hq
    have HG6 : Keep _ := ⟨HGd.out.keep hq⟩
    have hb6 := hbd.trans (hq.mono (HSS.out _ hbd))
    clear hPd hRd hdr HGd hbd hq
    refine wpList_own (by rfl) ?_
    go_wp2_with (go_at_call 42
                 refine (folded_c w4.heap.size 69 (bitAt f) HB'.out.1 HB'.out.2.1 FP.out.toFree _ HG6.out.toGlob hP6).mono ?_
                 rintro e w7 ⟨rfl, ho⟩
                 rw [HB'.out.2.2]
                 have SK : Keep (Has w7 w3.heap.size 24 (vals .u64 s) ∧ Has w7 w1.heap.size 24 (vals .u64 undL)) := ⟨⟨ho.has hS6.1 nI, ho.has hS6.2 nU⟩⟩
                 have hR7 := ho.has hR6 nR
                 have HG7 : Keep _ := ⟨HG6.out.only ho FP.out⟩
                 have hb7 := hb6.trans (ho.below (B := S) (HS4.out) (HSS.out _ hb6))
                 clear ho hP6 hR6 hS6 hb6)
    refine ⟨SK.out, ?_⟩
    refine wpAnyU_run (i := 2) (by rfl) (by kernel_rfl) (fun w8 hq => ?_)
    have hR8 := hR7.keep hq
    have SK8 : Keep (Has w8 w3.heap.size 24 (vals .u64 s) ∧ Has w8 w1.heap.size 24 (vals .u64 undL)) := ⟨HS2.out _ _ SK.out hq⟩
    have HG8 : Keep _ := ⟨HG7.out.keep hq⟩
    have hb8 := hb7.trans (hq.mono (HSS.out _ hb7))
    clear hR7 SK HG7 hb7 hq
    refine wpList_own (by rfl) ?_
    go_wp2_with (go_at_call 30
                 refine (fpMul_c s HI.out.1 HI.out.2.1 (fe (2 ^ f)) (fe_len _) (fe_words _) _ HG8.out.toGlob).mono ?_
                 rintro e w9 ⟨rfl, hq⟩
                 have hR9 := hR8.keep hq
                 have SK9 : Keep (Has w9 w3.heap.size 24 (vals .u64 s) ∧ Has w9 w1.heap.size 24 (vals .u64 undL)) := ⟨HS2.out _ _ SK8.out hq⟩
                 have HG9 : Keep _ := ⟨HG8.out.keep hq⟩
                 have hb9 := hb8.trans (hq.mono (HSS.out _ hb8))
                 clear hR8 SK8 hb8 hq)
    refine ⟨SK9.out, ?_⟩
    refine wpAnyU_run (i := 4) (by rfl) (by kernel_rfl) (fun w10 hq => ?_)
    have hR10 := hR9.keep hq
    have SK10 : Keep (Has w10 w3.heap.size 24 (vals .u64 s) ∧ Has w10 w1.heap.size 24 (vals .u64 undL)) := ⟨HS2.out _ _ SK9.out hq⟩
    have HG10 : Keep _ := ⟨HG9.out.keep hq⟩
    have hb10 := hb9.trans (hq.mono (HSS.out _ hb9))
    clear hR9 SK9 HG9 hb9 hq
    refine wpList_own (by rfl) ?_
    go_wp2_with (go_at_call 30
                 refine (fpMul_c (fe (num s * num (fe (2 ^ f)))) (fe_len _) (fe_words _) undL rfl und_words _ HG10.out.toGlob).mono ?_
                 rintro e w11 ⟨rfl, hq⟩
                 rw [FIN.out]
                 have hR11 := hR10.keep hq
                 have SK11 : Keep (Has w11 w3.heap.size 24 (vals .u64 s) ∧ Has w11 w1.heap.size 24 (vals .u64 undL)) := ⟨HS2.out _ _ SK10.out hq⟩
                 have hb11 := hb10.trans (hq.mono (HSS.out _ hb10))
                 clear hR10 SK10 hb10 hq)
    refine ⟨SK11.out, ?_⟩
    refine wpAnyU_run (i := 5) (by rfl) (by kernel_rfl) (fun w12 hq => ?_)
    refine store_abs2 (by rfl) 24 (.tmp 2) (.tmp 31) (by rfl) (by rfl) (S + 1) (vals .u64 o) (by rfl) (by rfl) 24 (vals .u64 Z6) (hR11.keep hq) (by rw [vals_size, OL.out]; kernel_rfl) (by rw [vals_size, vals_size, OL.out]; rfl) vals_one ?_
    intro w13 hR13 hkeep hbg
    have hs13 := HS2.out _ _ SK11.out hq
    refine ⟨⟨hkeep _ _ _ hs13.1 NRI.out, hkeep _ _ _ hs13.2 NRU.out⟩, ?_⟩
    have hb13 : Below S w w13 := (hb11.trans (hq.mono (HSS.out _ hb11))).trans (hbg.mono (by omega))
    refine wpAnyU_end (by kernel_rfl) (fun w14 hq4 => ?_)
    have hR14 := hR13.keep hq4
    have hb14 := hb13.trans (hq4.mono (HSS.out _ hb13))
    go_wp2
    refine bodyPost_ret (v := .agg (vals .u64 o)) (results_cell_row rfl _ _ (S + 1) _ _ _ _ rfl hR14.eq Tryd.underlying24 rfl (by rw [vals_size, OL.out]; kernel_rfl)) rfl ⟨rfl, hb14⟩
end Go.Proofs.YtmohopjblhgdiaaDoor.Fp
