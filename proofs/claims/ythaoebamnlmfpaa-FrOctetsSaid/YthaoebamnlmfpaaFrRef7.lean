/-
  Own text. The contracts of layer 6's reference: Bytes, FromBytes.
-/
import Derived.Test.YthaoebamnlmfpaaFrRef6
namespace Go.Proofs.Ythaoebamnlmfpaa.Fr
set_option linter.unusedVariables false
set_option linter.unusedSimpArgs false
open Go Go.RowKit Go.Proofs.Ythaoebamnlmfpaa.Num Go.Proofs.Ythaoebamnlmfpaa.Reg Go.Proofs.Ythaoebamnlmfpaa.Base Go.Proofs.Ythaoebamnlmfpaa.Limb Go.Proofs.Ythaoebamnlmfpaa.Bits

theorem fill_full {n : Nat} {l : List Int} (Z : Nat → Int) (hl : l.length = n) : fill n (nth l) Z n = l := ext_nth (by rw [fill_len, hl]) fun j hj => by
  rw [fill_len] at hj
  rw [fill_nth _ _ _ hj, if_pos hj]

set_option maxRecDepth 100000 in
set_option maxHeartbeats 2000000 in
theorem refFrBytes_c (a : List Int) (hl : a.length = 4) (hw : Words a) (w : World) : Calls Try.prog 29 #[.agg (vals .u64 a)] w fun e w' => e = .returned (.agg (vals .u8 (octL (fr (num a)) 32))) ∧ Below w.heap.size w w' := by
  have AL : Keep _ := ⟨hl⟩
  have AW : Keep _ := ⟨hw⟩
  clear hl hw
  obtain ⟨x, hx⟩ : ∃ x, fr (num a) = x := ⟨_, rfl⟩
  have XL : Keep (x.length = 4 ∧ Words x) := ⟨hx ▸ fr_len _, hx ▸ fr_words _⟩
  have HX : Keep _ := ⟨hx⟩
  rw [hx]
  clear hx
  obtain ⟨bs, hbs⟩ : ∃ bs, octL x 32 = bs := ⟨_, rfl⟩
  have BL : Keep (bs.length = 32) := ⟨hbs ▸ octL_len _ _⟩
  have HB : Keep _ := ⟨hbs⟩
  rw [hbs]
  clear hbs
  have hA0 : Has ((w.alloc (.cells (vals .u64 a) 25)).alloc (.cells (vals .u8 (List.replicate 32 0)) 36)) w.heap.size 25 (vals .u64 a) := (Has.new _ _ _).alloc _
  have hR0 : Has ((w.alloc (.cells (vals .u64 a) 25)).alloc (.cells (vals .u8 (List.replicate 32 0)) 36)) (w.heap.size + 1) 36 (vals .u8 (List.replicate 32 0)) := Has.new' _ (by simp) _ _
  have hb0 : Below w.heap.size w ((w.alloc (.cells (vals .u64 a) 25)).alloc (.cells (vals .u8 (List.replicate 32 0)) 36)) := ((Below.refl _ _).alloc (Nat.le_refl _) _).alloc (by simp) _
  go_enter Try.func29, Try.ntmps29
  go_wp2_with (first
    | (refine wpList_load_row rfl 25 (.tmp 1) rfl w.heap.size rfl _ _ _ _ hA0.eq Try.underlying25 rfl (by rw [vals_size, AL.out]; kernel_rfl) ?_)
    | (go_at_call 47
       refine (refOctets_c (some ⟨w1.heap.size, 0, none⟩) 4 4 x 32 w2.heap.size w2 (Rd.of_has hX2 hX2.lt (by rw [List.drop_zero, take_all XL.out.1]) (by rw [XL.out.1]; omega)) XL.out.2 (Nat.le_refl _) (by omega) (by omega)).mono ?_
       rintro e w3 ⟨A3, c3, rfl, ho3, hb3⟩
       rw [HB.out] at ho3
       have hR3 := hR2.keep hb3
       have hbb3 := hbb2.trans (hb3.mono hbb2.size)
       clear hX2 hR2 hbb2 hb3)
    | (go_at_call 15
       refine (refReduce_c a AL.out AW.out _).mono ?_
       rintro e w1 ⟨rfl, hb1⟩
       rw [HX.out]
       have hR1 := hR0.keep hb1
       have hbb1 := hb0.trans (hb1.mono hb0.size)
       clear hA0 hR0 hb0 hb1)
    | (refine store_abs2 (by rfl) 25 (.tmp 3) (.tmp 8) (by rfl) (by rfl) w1.heap.size (vals .u64 x) (by rfl) (by rfl) 25 (vals .u64 Z4) (Has.new' _ rfl _ _) (by rw [vals_size, XL.out.1]; kernel_rfl) (by rw [vals_size, vals_size, XL.out.1]; rfl) vals_one ?_
       intro w2 hX2 hkeep hbg
       have hbe := ((Below.refl w1.heap.size w1).alloc (Nat.le_refl _) (.cells (vals .u64 Z4) 25)).trans hbg
       have hR2 := hR1.keep hbe
       have hbb2 := hbb1.trans (hbe.mono hbb1.size)
       clear hkeep hbg hbe hR1 hbb1))
  obtain ⟨g3, rfl, hg0, hg1, hc3, -⟩ := ho3.at_ (by omega)
  have ho3r := ho3.rd
  have hO4 : Has (w3.alloc (.cells (vals .u8 (List.replicate 32 0)) 36)) w3.heap.size 36 (vals .u8 (fill 32 (nth bs) (nth (List.replicate 32 0)) 0)) := by
    rw [fill_zero 32 _ _ (by rfl)]
    exact Has.new _ _ _
  have hR4 := hR3.alloc (.cells (vals .u8 (List.replicate 32 0)) 36)
  have hb4 := hbb3.alloc hbb3.size (.cells (vals .u8 (List.replicate 32 0)) 36)
  have hr4 := ho3r.keep ((Below.refl w3.heap.size w3).alloc (Nat.le_refl _) (.cells (vals .u8 (List.replicate 32 0)) 36)) (Nat.le_refl _)
  have hg13 : w.heap.size + 1 < w3.heap.size := hR3.lt
  clear hR3 hbb3 ho3 ho3r hc3
  go_loopg [6] 32 (fun (gk : Nat) vi wr => ∃ k : Nat, k + gk = 32 ∧ vi = .int .i64 k ∧ Has wr (w.heap.size + 1) 36 (vals .u8 (List.replicate 32 0)) ∧ Has wr w3.heap.size 36 (vals .u8 (fill 32 (nth bs) (nth (List.replicate 32 0)) k)) ∧ Rd wr w3.heap.size (some ⟨g3, 0, none⟩) 32 .u8 bs ∧ Below w.heap.size w wr)
  case atStart => exact ⟨0, rfl, rfl, hR4, hO4, hr4, hb4⟩
  case round =>
    clear hR4 hO4 hr4 hb4
    obtain ⟨k, hk, rfl, hR, hO, hr, hb⟩ := hrel
    by_cases hlt : k < 32
    · obtain ⟨m, rfl⟩ : ∃ m, gk = m + 1 := ⟨gk - 1, by omega⟩
      obtain ⟨y, hy⟩ : ∃ y, nth bs k = y := ⟨_, rfl⟩
      have cy : wr.cell? ⟨g3, k, none⟩ = some (.int .u8 y) := by rw [← hy]; exact hr.get0 hlt
      have hlen : k < (fill 32 (nth bs) (nth (List.replicate 32 0)) k).length := by rw [fill_len]; exact hlt
      obtain ⟨z, hz⟩ : ∃ z, nth (fill 32 (nth bs) (nth (List.replicate 32 0)) k) k = z := ⟨_, rfl⟩
      have co : wr.cell? ⟨w3.heap.size, k, none⟩ = some (.int .u8 z) := by rw [← hz]; exact hO.val hlen
      have zo := hO.frozen k
      have hO5 := hO.set_ k (.int .u8 y)
      rw [vals_set, fill_set _ _ hlt hy.symm] at hO5
      have hR5 := hR.far (p := ⟨w3.heap.size, k, none⟩) (by show w.heap.size + 1 ≠ w3.heap.size; omega) (.int .u8 y)
      have hb5 := hb.setCell (p := ⟨w3.heap.size, k, none⟩) (by show w.heap.size ≤ w3.heap.size; omega) (.int .u8 y)
      have hr5 := hr.keep ((Below.refl w3.heap.size wr).setCell (p := ⟨w3.heap.size, k, none⟩) (Nat.le_refl _) (.int .u8 y)) (Nat.le_refl _)
      have HH : Keep _ := ⟨And.intro hO5 (And.intro hR5 (And.intro hb5 hr5))⟩
      clear hy hz hlen hO5 hR5 hb5 hr5
      go_wp2
      go_roundg m
      case measure => omega
      case rel => exact ⟨k + 1, by omega, by go_num, HH.out.2.1, HH.out.1, HH.out.2.2.2, HH.out.2.2.1⟩
    · obtain rfl : 32 = k := by omega
      rw [fill_full _ BL.out] at hO
      go_wp2_with (first
        | (refine wpList_load_row rfl 36 (.tmp 5) rfl w3.heap.size rfl _ _ _ _ hO.eq Try.underlying36 rfl (by rw [vals_size, BL.out]; kernel_rfl) ?_)
        | (refine wpList_store_rowTo rfl 36 (.tmp 2) (.tmp 21) rfl rfl (w.heap.size + 1) (vals .u8 bs) rfl rfl _ _ hR.eq (by rw [vals_size, BL.out]; kernel_rfl) (by rw [vals_size, vals_size, BL.out]; rfl) vals_one ?_))
      refine bodyPost_ret (v := .agg (vals .u8 bs)) (results_cell_row rfl _ _ (w.heap.size + 1) _ _ _ _ rfl (hR.row _).eq Try.underlying36 rfl (by rw [vals_size, BL.out]; kernel_rfl)) rfl ⟨rfl, below_row hb (by omega) _⟩

theorem results_row_tmp_ {P : Program} {fn : Func} {p u : Tmp} {ty : TypeId} (h : fn.results = #[.cell p ty, .tmp u]) (tmps : Array Value) (w : World) (g : Nat) (t : TypeId) (cs : Array Value) (fr : Nat × Nat) (d : TypeDesc) (v : Value)
    (hp : tmps.getD p undef = .pointer (some ⟨g, 0, none⟩)) (hv : tmps.getD u undef = v) (hg : w.heap[g]? = some (.cells cs t fr))
    (hu : P.underlying ty = some d) (hd : (match d with | .struct _ | .array _ _ => true | _ => false) = true) (hi : (P.info? ty).map (·.size) = some cs.size) :
    (results fn tmps).run P w = .ok (.tuple #[.agg cs, v]) w := by
  rw [results_cell_tmp h, hp, hv]
  simp [asAddr, run_loadVar_row w g t ty cs fr d hg hu hd hi]
set_option maxRecDepth 100000 in
set_option maxHeartbeats 2000000 in
theorem refFromBytes_no (A : Option Addr) (n c : Nat) (w : World) (hn : n ≠ 32) : Calls Try.prog 25 #[.slice A n c] w fun e w' => e = .returned (.tuple #[.agg (vals .u64 Z4), .int .i64 60]) ∧ Below w.heap.size w w' := by
  have LZ : Keep (Z4.length = 4) := ⟨rfl⟩
  have hne : ((n : Int) != 32) = true := by rw [bne_iff_ne]; omega
  obtain ⟨S, hS⟩ : ∃ S, w.heap.size = S := ⟨_, rfl⟩
  have qo0 : Has (w.alloc (.cells (vals .u64 Z4) 25)) (S) 25 (vals .u64 Z4) := by exact (Has.new' _ hS.symm _ _)
  have hb0 : Below S w (w.alloc (.cells (vals .u64 Z4) 25)) := by rw [← hS]; exact ((Below.refl _ _).alloc (Nat.le_refl _) _)
  have hsz0 : (w.alloc (.cells (vals .u64 Z4) 25)).heap.size = S + 1 := by simp only [World.size_alloc, hS]
  have HS0 : Keep (S ≤ w.heap.size) := ⟨by omega⟩
  have HSS : Keep (∀ x : World, Below S w x → S ≤ x.heap.size) := ⟨fun x hb => Nat.le_trans HS0.out hb.size⟩
  rw [hS]
  go_enter Try.func25, Try.ntmps25
  go_wp2_with (first
    | (refine store_abs2 (by rfl) 25 (.tmp 2) (.tmp 9) (by rfl) (by rfl) (S) (vals .u64 Z4) (by rfl) (by rfl) 25 _ qo0 (by rw [vals_size, LZ.out]; kernel_rfl) (by first | rfl | (rw [vals_size, vals_size, LZ.out]; rfl) | rw [vals_size, vals_size, LZ.out, LZ.out]) vals_one ?_
       intro w1 qo1 hkeep hbg
       have hb1 := hb0.trans (hbg.mono (by omega))
       clear hkeep hbg hb0 qo0)
    | (refine wpList_buildTo (by rfl) 25 #[] (by rfl) (some 9) (by rfl) (vals .u64 Z4) (by kernel_rfl) ?_))
  refine bodyPost_ret (v := .tuple #[.agg (vals .u64 Z4), .int .i64 60]) (results_row_tmp_ rfl _ _ (S) _ _ _ _ _ rfl rfl qo1.eq Try.underlying25 rfl (by rw [vals_size, LZ.out]; kernel_rfl)) rfl ⟨rfl, hb1⟩

set_option maxRecDepth 100000 in
set_option maxHeartbeats 2000000 in
theorem refFromBytes_range (A : Option Addr) (c : Nat) (l : List Int) (B : Nat) (w : World) (hr : Rd w B A 32 .u8 l) (hby : Bytes l) (hB : B ≤ w.heap.size) (hp : RR ≤ bnum l) : Calls Try.prog 25 #[.slice A 32 c] w fun e w' => e = .returned (.tuple #[.agg (vals .u64 Z4), .int .i64 61]) ∧ Below w.heap.size w w' := by
  have LZ : Keep (Z4.length = 4) := ⟨rfl⟩
  have LM : Keep (mL.length = 4) := ⟨rfl⟩
  have hll := hr.len
  have hnv := num_wordsL_ hby
  have hvl : (wordsL l).length = 4 := by rw [wordsL, wd_len, hll]
  have hvw : Words (wordsL l) := wd_words _ _
  obtain ⟨z, hz, hz0⟩ : ∃ z : Int, cmpL (wordsL l) mL = z ∧ (z = 0 ∨ z = 1) := ⟨_, rfl, by
    unfold cmpL
    rw [hnv, num_mL, if_neg (by omega)]
    by_cases h : bnum l = RR
    · exact .inl (if_pos h)
    · exact .inr (if_neg h)⟩
  have P1 : Keep (∀ y : World, Rd y y.heap.size A 32 .u8 l → Calls Try.prog 44 #[.slice A 32 c] y fun e y' => ∃ A'' c'', e = .returned (.slice A'' 4 c'') ∧ Own y' y.heap.size 23 .u64 A'' 4 c'' (wordsL l) ∧ Below y.heap.size y y') := ⟨fun y h => refWords_c A 32 c l y.heap.size y h hby (Nat.le_refl _) (by omega)⟩
  have P2 : Keep (∀ (y : World) (A' : Option Addr) (c' g : Nat), Rd y y.heap.size A' 4 .u64 (wordsL l) → Has y g 25 (vals .u64 mL) → Calls Try.prog 45 #[.slice A' 4 c', .slice (some ⟨g, 0, none⟩) 4 4] y fun e y' => e = .returned (.int .i64 z) ∧ Below y.heap.size y y') := ⟨fun y A' c' g h h' => by
    have h1 := refCmp_c A' 4 c' (wordsL l) (some ⟨g, 0, none⟩) 4 4 mL y.heap.size y h hvw (Rd.of_has h' h'.lt (by rfl) (by decide)) mL_words (by omega) (by omega)
    rw [hz] at h1
    exact h1.mono fun e x' ⟨he, hx⟩ => ⟨he, hx ▸ Below.refl _ _⟩⟩
  obtain ⟨v, hv⟩ : ∃ v, wordsL l = v := ⟨_, rfl⟩
  rw [hv] at P1 P2
  obtain ⟨S, hS⟩ : ∃ S, w.heap.size = S := ⟨_, rfl⟩
  have qo0 : Has (w.alloc (.cells (vals .u64 Z4) 25)) (S) 25 (vals .u64 Z4) := by exact (Has.new' _ hS.symm _ _)
  have hb0 : Below S w (w.alloc (.cells (vals .u64 Z4) 25)) := by rw [← hS]; exact ((Below.refl _ _).alloc (Nat.le_refl _) _)
  have hsz0 : (w.alloc (.cells (vals .u64 Z4) 25)).heap.size = S + 1 := by simp only [World.size_alloc, hS]
  have HS0 : Keep (S ≤ w.heap.size) := ⟨by omega⟩
  have HSS : Keep (∀ x : World, Below S w x → S ≤ x.heap.size) := ⟨fun x hb => Nat.le_trans HS0.out hb.size⟩
  rw [hS]
  have HRD : Keep (∀ x : World, Below S w x → Rd x x.heap.size A 32 .u8 l) := ⟨fun x hb => (hr.keep hb (by omega)).more (Nat.le_trans hB (Nat.le_trans (by omega) (HSS.out _ hb)))⟩
  clear hr hby hB hp hll hnv hvl hvw hz hv
  rcases hz0 with rfl | rfl
  · go_enter Try.func25, Try.ntmps25
    go_wp2_with (first
      | (refine store_abs2 (by rfl) 25 (.tmp 2) (.tmp 17) (by rfl) (by rfl) (S) (vals .u64 Z4) (by rfl) (by rfl) 25 _ qo4 (by rw [vals_size, LZ.out]; kernel_rfl) (by first | rfl | (rw [vals_size, vals_size, LZ.out]; rfl) | rw [vals_size, vals_size, LZ.out, LZ.out]) vals_one ?_
         intro w5 qo5 hkeep hbg
         have qm5 := hkeep _ _ _ qm4 (Nat.ne_of_gt Nom.out)
         have hb5 := hb4.trans (hbg.mono (by omega))
         clear hkeep hbg hb4 qo4 qm4)
      | (refine wpList_buildTo (by rfl) 25 #[] (by rfl) (some 17) (by rfl) (vals .u64 Z4) (by kernel_rfl) ?_)
      | (have hq0 := hb3
         clear hq0
         go_at_call 45
         refine (P2.out _ _ _ _ xv3 qm3).mono ?_
         rintro e w4 ⟨rfl, hq⟩
         have qo4 := qo3.keep hq
         have qm4 := qm3.keep hq
         have xv4 := rd_here xv3 hq
         have hb4 := hb3.trans (hq.mono (HSS.out _ hb3))
         clear hq hb3 qo3 qm3 xv3)
      | (refine store_abs2 (by rfl) 25 (.tmp 5) (.tmp 12) (by rfl) (by rfl) (w2.heap.size) (vals .u64 mL) (by rfl) (by rfl) 25 (vals .u64 Z4) (Has.new' _ rfl _ _) (by rw [vals_size, LM.out]; kernel_rfl) (by first | rfl | (rw [vals_size, vals_size, LM.out]; rfl)) vals_one ?_
         intro w3 qm3 hkeep hbg
         have hbe := ((Below.refl (w2).heap.size (w2)).alloc (Nat.le_refl _) (.cells (vals .u64 Z4) 25)).trans hbg
         have Nom : Keep (S < w2.heap.size) := ⟨qo2.lt⟩
         have Mm : Keep (S ≤ w2.heap.size) := ⟨HSS.out _ hb2⟩
         have qo3 := qo2.keep hbe
         have xv3 := rd_here xv2 hbe
         have hb3 := hb2.trans (hbe.mono (HSS.out _ hb2))
         clear hkeep hbg hbe hb2 qo2 xv2)
      | (have hq0 := hb1
         clear hq0
         go_at_call 13
         refine (refR_c _).mono ?_
         rintro e w2 ⟨rfl, hq⟩
         have qo2 := qo1.keep hq
         have xv2 := rd_here xv1 hq
         have hb2 := hb1.trans (hq.mono (HSS.out _ hb1))
         clear hq hb1 qo1 xv1)
      | (have hq0 := hb0
         clear hq0
         go_at_call 44
         refine (P1.out _ (HRD.out _ hb0)).mono ?_
         rintro e w1 ⟨A1, c1, rfl, ho, hq⟩
         have qo1 := qo0.keep hq
         have hb1 := hb0.trans (hq.mono (HSS.out _ hb0))
         have xv1 := ho.rd
         clear ho
         clear hq hb0 qo0))
    refine bodyPost_ret (v := .tuple #[.agg (vals .u64 Z4), .int .i64 61]) (results_row_tmp_ rfl _ _ (S) _ _ _ _ _ rfl rfl qo5.eq Try.underlying25 rfl (by rw [vals_size, LZ.out]; kernel_rfl)) rfl ⟨rfl, hb5⟩
  · go_enter Try.func25, Try.ntmps25
    go_wp2_with (first
      | (refine store_abs2 (by rfl) 25 (.tmp 2) (.tmp 17) (by rfl) (by rfl) (S) (vals .u64 Z4) (by rfl) (by rfl) 25 _ qo4 (by rw [vals_size, LZ.out]; kernel_rfl) (by first | rfl | (rw [vals_size, vals_size, LZ.out]; rfl) | rw [vals_size, vals_size, LZ.out, LZ.out]) vals_one ?_
         intro w5 qo5 hkeep hbg
         have qm5 := hkeep _ _ _ qm4 (Nat.ne_of_gt Nom.out)
         have hb5 := hb4.trans (hbg.mono (by omega))
         clear hkeep hbg hb4 qo4 qm4)
      | (refine wpList_buildTo (by rfl) 25 #[] (by rfl) (some 17) (by rfl) (vals .u64 Z4) (by kernel_rfl) ?_)
      | (have hq0 := hb3
         clear hq0
         go_at_call 45
         refine (P2.out _ _ _ _ xv3 qm3).mono ?_
         rintro e w4 ⟨rfl, hq⟩
         have qo4 := qo3.keep hq
         have qm4 := qm3.keep hq
         have xv4 := rd_here xv3 hq
         have hb4 := hb3.trans (hq.mono (HSS.out _ hb3))
         clear hq hb3 qo3 qm3 xv3)
      | (refine store_abs2 (by rfl) 25 (.tmp 5) (.tmp 12) (by rfl) (by rfl) (w2.heap.size) (vals .u64 mL) (by rfl) (by rfl) 25 (vals .u64 Z4) (Has.new' _ rfl _ _) (by rw [vals_size, LM.out]; kernel_rfl) (by first | rfl | (rw [vals_size, vals_size, LM.out]; rfl)) vals_one ?_
         intro w3 qm3 hkeep hbg
         have hbe := ((Below.refl (w2).heap.size (w2)).alloc (Nat.le_refl _) (.cells (vals .u64 Z4) 25)).trans hbg
         have Nom : Keep (S < w2.heap.size) := ⟨qo2.lt⟩
         have Mm : Keep (S ≤ w2.heap.size) := ⟨HSS.out _ hb2⟩
         have qo3 := qo2.keep hbe
         have xv3 := rd_here xv2 hbe
         have hb3 := hb2.trans (hbe.mono (HSS.out _ hb2))
         clear hkeep hbg hbe hb2 qo2 xv2)
      | (have hq0 := hb1
         clear hq0
         go_at_call 13
         refine (refR_c _).mono ?_
         rintro e w2 ⟨rfl, hq⟩
         have qo2 := qo1.keep hq
         have xv2 := rd_here xv1 hq
         have hb2 := hb1.trans (hq.mono (HSS.out _ hb1))
         clear hq hb1 qo1 xv1)
      | (have hq0 := hb0
         clear hq0
         go_at_call 44
         refine (P1.out _ (HRD.out _ hb0)).mono ?_
         rintro e w1 ⟨A1, c1, rfl, ho, hq⟩
         have qo1 := qo0.keep hq
         have hb1 := hb0.trans (hq.mono (HSS.out _ hb0))
         have xv1 := ho.rd
         clear ho
         clear hq hb0 qo0))
    refine bodyPost_ret (v := .tuple #[.agg (vals .u64 Z4), .int .i64 61]) (results_row_tmp_ rfl _ _ (S) _ _ _ _ _ rfl rfl qo5.eq Try.underlying25 rfl (by rw [vals_size, LZ.out]; kernel_rfl)) rfl ⟨rfl, hb5⟩

set_option maxRecDepth 100000 in
set_option maxHeartbeats 2000000 in
theorem refFromBytes_ok (A : Option Addr) (c : Nat) (l : List Int) (B : Nat) (w : World) (hr : Rd w B A 32 .u8 l) (hby : Bytes l) (hB : B ≤ w.heap.size) (hp : ¬ RR ≤ bnum l) : Calls Try.prog 25 #[.slice A 32 c] w fun e w' => e = .returned (.tuple #[.agg (vals .u64 (fr (bnum l))), .int .i64 0]) ∧ Below w.heap.size w w' := by
  have LZ : Keep (Z4.length = 4) := ⟨rfl⟩
  have LM : Keep (mL.length = 4) := ⟨rfl⟩
  have hll := hr.len
  have hnv := num_wordsL_ hby
  have hvl : (wordsL l).length = 4 := by rw [wordsL, wd_len, hll]
  have hvw : Words (wordsL l) := wd_words _ _
  obtain ⟨z, hz, hz0⟩ : ∃ z : Int, cmpL (wordsL l) mL = z ∧ z = -1 := ⟨_, rfl, by
    unfold cmpL
    rw [hnv, num_mL, if_pos (by omega)]⟩
  have P1 : Keep (∀ y : World, Rd y y.heap.size A 32 .u8 l → Calls Try.prog 44 #[.slice A 32 c] y fun e y' => ∃ A'' c'', e = .returned (.slice A'' 4 c'') ∧ Own y' y.heap.size 23 .u64 A'' 4 c'' (wordsL l) ∧ Below y.heap.size y y') := ⟨fun y h => refWords_c A 32 c l y.heap.size y h hby (Nat.le_refl _) (by omega)⟩
  have P2 : Keep (∀ (y : World) (A' : Option Addr) (c' g : Nat), Rd y y.heap.size A' 4 .u64 (wordsL l) → Has y g 25 (vals .u64 mL) → Calls Try.prog 45 #[.slice A' 4 c', .slice (some ⟨g, 0, none⟩) 4 4] y fun e y' => e = .returned (.int .i64 z) ∧ Below y.heap.size y y') := ⟨fun y A' c' g h h' => by
    have h1 := refCmp_c A' 4 c' (wordsL l) (some ⟨g, 0, none⟩) 4 4 mL y.heap.size y h hvw (Rd.of_has h' h'.lt (by rfl) (by decide)) mL_words (by omega) (by omega)
    rw [hz] at h1
    exact h1.mono fun e x' ⟨he, hx⟩ => ⟨he, hx ▸ Below.refl _ _⟩⟩
  obtain ⟨r, hr_⟩ : ∃ o, fr (bnum l) = o := ⟨_, rfl⟩
  have Lr : Keep (r.length = 4) := ⟨by rw [← hr_]; exact fr_len _⟩
  have P3 : Keep (∀ (y : World) (A : Option Addr) (c : Nat), Rd y y.heap.size A 4 .u64 (wordsL l) → Calls Try.prog 41 #[.slice A 4 c] y fun e y' => e = .returned (.agg (vals .u64 r)) ∧ Below y.heap.size y y') := ⟨fun y A c h => by
    have h1 := refWide_c4 A 4 c (wordsL l) y.heap.size y h hvw (Nat.le_refl _) (by omega)
    rw [hnv, hr_] at h1
    exact h1⟩
  rw [hr_]
  obtain ⟨v, hv⟩ : ∃ v, wordsL l = v := ⟨_, rfl⟩
  rw [hv] at P1 P2 P3
  obtain ⟨S, hS⟩ : ∃ S, w.heap.size = S := ⟨_, rfl⟩
  have qo0 : Has (w.alloc (.cells (vals .u64 Z4) 25)) (S) 25 (vals .u64 Z4) := by exact (Has.new' _ hS.symm _ _)
  have hb0 : Below S w (w.alloc (.cells (vals .u64 Z4) 25)) := by rw [← hS]; exact ((Below.refl _ _).alloc (Nat.le_refl _) _)
  have hsz0 : (w.alloc (.cells (vals .u64 Z4) 25)).heap.size = S + 1 := by simp only [World.size_alloc, hS]
  have HS0 : Keep (S ≤ w.heap.size) := ⟨by omega⟩
  have HSS : Keep (∀ x : World, Below S w x → S ≤ x.heap.size) := ⟨fun x hb => Nat.le_trans HS0.out hb.size⟩
  rw [hS]
  have HRD : Keep (∀ x : World, Below S w x → Rd x x.heap.size A 32 .u8 l) := ⟨fun x hb => (hr.keep hb (by omega)).more (Nat.le_trans hB (Nat.le_trans (by omega) (HSS.out _ hb)))⟩
  clear hr hby hB hp hll hnv hvl hvw hz hv hr_
  subst hz0
  go_enter Try.func25, Try.ntmps25
  go_wp2_with (first
    | (refine store_abs2 (by rfl) 25 (.tmp 2) (.tmp 19) (by rfl) (by rfl) (S) (vals .u64 r) (by rfl) (by rfl) 25 _ qo5 (by rw [vals_size, Lr.out]; kernel_rfl) (by first | rfl | (rw [vals_size, vals_size, Lr.out]; rfl) | rw [vals_size, vals_size, Lr.out, LZ.out]) vals_one ?_
       intro w6 qo6 hkeep hbg
       have qm6 := hkeep _ _ _ qm5 (Nat.ne_of_gt Nom.out)
       have hb6 := hb5.trans (hbg.mono (by omega))
       clear hkeep hbg hb5 qo5 qm5)
    | (have hq0 := hb4
       clear hq0
       go_at_call 41
       refine (P3.out _ _ _ xv4).mono ?_
       rintro e w5 ⟨rfl, hq⟩
       have qo5 := qo4.keep hq
       have qm5 := qm4.keep hq
       have xv5 := rd_here xv4 hq
       have hb5 := hb4.trans (hq.mono (HSS.out _ hb4))
       clear hq hb4 qo4 qm4 xv4)
    | (have hq0 := hb3
       clear hq0
       go_at_call 45
       refine (P2.out _ _ _ _ xv3 qm3).mono ?_
       rintro e w4 ⟨rfl, hq⟩
       have qo4 := qo3.keep hq
       have qm4 := qm3.keep hq
       have xv4 := rd_here xv3 hq
       have hb4 := hb3.trans (hq.mono (HSS.out _ hb3))
       clear hq hb3 qo3 qm3 xv3)
    | (refine store_abs2 (by rfl) 25 (.tmp 5) (.tmp 12) (by rfl) (by rfl) (w2.heap.size) (vals .u64 mL) (by rfl) (by rfl) 25 (vals .u64 Z4) (Has.new' _ rfl _ _) (by rw [vals_size, LM.out]; kernel_rfl) (by first | rfl | (rw [vals_size, vals_size, LM.out]; rfl)) vals_one ?_
       intro w3 qm3 hkeep hbg
       have hbe := ((Below.refl (w2).heap.size (w2)).alloc (Nat.le_refl _) (.cells (vals .u64 Z4) 25)).trans hbg
       have Nom : Keep (S < w2.heap.size) := ⟨qo2.lt⟩
       have Mm : Keep (S ≤ w2.heap.size) := ⟨HSS.out _ hb2⟩
       have qo3 := qo2.keep hbe
       have xv3 := rd_here xv2 hbe
       have hb3 := hb2.trans (hbe.mono (HSS.out _ hb2))
       clear hkeep hbg hbe hb2 qo2 xv2)
    | (have hq0 := hb1
       clear hq0
       go_at_call 13
       refine (refR_c _).mono ?_
       rintro e w2 ⟨rfl, hq⟩
       have qo2 := qo1.keep hq
       have xv2 := rd_here xv1 hq
       have hb2 := hb1.trans (hq.mono (HSS.out _ hb1))
       clear hq hb1 qo1 xv1)
    | (have hq0 := hb0
       clear hq0
       go_at_call 44
       refine (P1.out _ (HRD.out _ hb0)).mono ?_
       rintro e w1 ⟨A1, c1, rfl, ho, hq⟩
       have qo1 := qo0.keep hq
       have hb1 := hb0.trans (hq.mono (HSS.out _ hb0))
       have xv1 := ho.rd
       clear ho
       clear hq hb0 qo0))
  refine bodyPost_ret (v := .tuple #[.agg (vals .u64 r), .int .i64 0]) (results_row_tmp_ rfl _ _ (S) _ _ _ _ _ rfl rfl qo6.eq Try.underlying25 rfl (by rw [vals_size, Lr.out]; kernel_rfl)) rfl ⟨rfl, hb6⟩

end Go.Proofs.Ythaoebamnlmfpaa.Fr
