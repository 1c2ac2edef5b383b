/-
  Own text. The contract of the closure of folded of package fp: a word times a number added to seven words.
-/
import Derived.Test.YtmohopjblhgdiaaDoorFpW5
import Derived.Test.YtmohopjblhgdiaaDoorRegG
namespace Go.Proofs.YtmohopjblhgdiaaDoor.Fp
set_option linter.unusedVariables false
set_option linter.unusedSimpArgs false
open Go Go.RowKit Go.Proofs.YtmohopjblhgdiaaDoor.Reg Go.Proofs.YtmohopjblhgdiaaDoor.Base Go.Proofs.YtmohopjblhgdiaaDoor.Limb Go.Proofs.YtmohopjblhgdiaaDoor.Bits

theorem below_cell {w w' : World} {b i : Nat} (h : Below w.heap.size w w') (hb : b < w.heap.size) : w'.cell? ⟨b, i, none⟩ = w.cell? ⟨b, i, none⟩ := h.cell (p := ⟨b, i, none⟩) hb
theorem only_cell {g : Nat} {w w' : World} {b i : Nat} (h : Only g w w') (hb : b < w.heap.size) (hne : b ≠ g) : w'.cell? ⟨b, i, none⟩ = w.cell? ⟨b, i, none⟩ := by
  simp only [World.cell?, h.block b hb hne]
theorem cell_lt {w : World} {b i : Nat} {v : Value} (h : w.cell? ⟨b, i, none⟩ = some v) : b < w.heap.size := block_lt_of_cell h
theorem set_six {o r : List Int} {c v : Int} (h : o.length = 6) : (o ++ c :: r).set 6 v = o ++ v :: r := by
  rw [List.set_append_right _ _ (by omega), h, Nat.sub_self]
  rfl
/-- What the closure's reads find, before the call and behind it. -/
def Seen (g b2 b3 : Nat) (x : World) : Prop :=
  x.cell? ⟨b2, 0, none⟩ = some (.pointer (some ⟨g, 0, none⟩)) ∧ x.cell? ⟨b3, 0, none⟩ = some (.pointer (some ⟨g, 0, none⟩))
theorem seen_up {g b2 b3 : Nat} (w w' : World) (h : Seen g b2 b3 w) (hb : Below w.heap.size w w') : Seen g b2 b3 w' :=
  ⟨(below_cell hb (cell_lt h.1)).trans h.1, (below_cell hb (cell_lt h.2)).trans h.2⟩
theorem seen_only {g b2 b3 : Nat} {w w' : World} (h : Seen g b2 b3 w) (ho : Only g w w') (h2 : b2 ≠ g) (h3 : b3 ≠ g) : Seen g b2 b3 w' :=
  ⟨(only_cell ho (cell_lt h.1) h2).trans h.1, (only_cell ho (cell_lt h.2) h3).trans h.2⟩

set_option maxRecDepth 100000 in
set_option maxHeartbeats 1000000 in
theorem foldStep_c (g b2 b3 : Nat) (t t2 t3 : TypeId) (a r res : List Int) (c x : Int) (hla : a.length = 6) (hwa : Words a) (hlr : res.length = 6) (hwr : Words res) (hc : 0 ≤ c ∧ c ≤ 18446744073709551615) (hx : 0 ≤ x ∧ x ≤ 18446744073709551615)
    (hV : num a + wp 6 * c + x * num res < wp 7) (h2g : b2 ≠ g) (h3g : b3 ≠ g) (w : World) (h2 : Has w b2 t2 #[.pointer (some ⟨g, 0, none⟩)]) (h3 : Has w b3 t3 #[.pointer (some ⟨g, 0, none⟩)]) (hA : Has w g t (vals .u64 (a ++ c :: r))) :
    Calls Tryd.prog 69 #[.agg (vals .u64 res), .int .u64 x, .pointer (some ⟨b2, 0, none⟩), .pointer (some ⟨b3, 0, none⟩)] w fun e w' => e = .returned (.tuple #[]) ∧ ∃ (o : List Int) (c' : Int), Has w' g t (vals .u64 (o ++ c' :: r)) ∧ o.length = 6 ∧ Words o ∧ 0 ≤ c' ∧ c' ≤ 18446744073709551615 ∧ num o + wp 6 * c' = num a + wp 6 * c + x * num res ∧ Only g w w' := by
  have hs0 : Seen g b2 b3 (w.alloc (.cells (vals .u64 res) 24)) := by
    have c2 := (h2.alloc (.cells (vals .u64 res) 24)).cell 0
    have c3 := (h3.alloc (.cells (vals .u64 res) 24)).cell 0
    exact ⟨c2, c3⟩
  have hX0 : Has (w.alloc (.cells (vals .u64 res) 24)) w.heap.size 24 (vals .u64 res) := Has.new _ _ _
  have hA0 : Has (w.alloc (.cells (vals .u64 res) 24)) g t (vals .u64 ([] ++ (a ++ c :: r))) := hA.alloc _
  have hO0 : Only g w (w.alloc (.cells (vals .u64 res) 24)) := Only.of_below ((Below.refl _ _).alloc (Nat.le_refl _) _) g
  obtain ⟨w1, hw1⟩ : ∃ w1, w.alloc (.cells (vals .u64 res) 24) = w1 := ⟨_, rfl⟩
  rw [hw1] at hs0 hX0 hA0 hO0
  have hgl : g ≠ w.heap.size := Nat.ne_of_lt hA.lt
  have LA : Keep _ := ⟨hla⟩
  have WA : Keep _ := ⟨hwa⟩
  have LR : Keep _ := ⟨hlr⟩
  have WR : Keep _ := ⟨hwr⟩
  have CC : Keep _ := ⟨hc⟩
  have XX : Keep _ := ⟨hx⟩
  have VV : Keep _ := ⟨hV⟩
  have HS : Keep (∀ w w' : World, Seen g b2 b3 w → Below w.heap.size w w' → Seen g b2 b3 w') := ⟨seen_up⟩
  have K2 : Keep (∀ w', Seen g b2 b3 w' → w'.cell? ⟨b2, 0, none⟩ = some (.pointer (some ⟨g, 0, none⟩))) := ⟨fun _ h => h.1⟩
  have K3 : Keep (∀ w', Seen g b2 b3 w' → w'.cell? ⟨b3, 0, none⟩ = some (.pointer (some ⟨g, 0, none⟩))) := ⟨fun _ h => h.2⟩
  clear h2 h3 hA hla hwa hlr hwr hc hx hV
  go_enter Tryd.func69, Tryd.ntmps69
  go_wp2
  have hdr : Seen g b2 b3 w1.drew := hs0
  refine wp_regionU (S := Seen g b2 b3) (by kernel_rfl) ?_
  change wpAnyU _ _ _ _ _ 11 _ _ _
  refine wpAnyU_take (i := 0) (v := .pointer (some ⟨g, 0, none⟩)) HS.out (by rfl) (by kernel_rfl) (by kernel_rfl) (by kernel_rfl) (fun _ _ d _ _ h => by cases d <;> exact h) hdr (Or.inl ⟨by rfl, fun w hw => (by unfold Oper.quietAt; have c := K2.out w hw; go_simp)⟩) ?_
  simp only [Act.put, List.setIfInBounds_toArray, List.set_cons_zero, List.set_cons_succ]
  refine wpAnyU_take (i := 1) (v := _) HS.out (by rfl) (by kernel_rfl) (by kernel_rfl) (by kernel_rfl) (fun _ _ d _ _ h => by cases d <;> exact h) hdr (Steady.of_yields (Or.inl ⟨by rfl, fun w => (by go_simp; with_reducible rfl)⟩)) ?_
  simp only [Act.put, List.setIfInBounds_toArray, List.set_cons_zero, List.set_cons_succ]
  refine wpAnyU_take (i := 2) (v := _) HS.out (by rfl) (by kernel_rfl) (by kernel_rfl) (by kernel_rfl) (fun _ _ d _ _ h => by cases d <;> exact h) hdr (Steady.of_yields (Or.inl ⟨by rfl, fun w => (by go_simp; with_reducible rfl)⟩)) ?_
  simp only [Act.put, List.setIfInBounds_toArray, List.set_cons_zero, List.set_cons_succ]
  refine wpAnyU_take (i := 4) (v := .pointer (some ⟨g, 0, none⟩)) HS.out (by rfl) (by kernel_rfl) (by kernel_rfl) (by kernel_rfl) (fun _ _ d _ _ h => by cases d <;> exact h) hdr (Or.inl ⟨by rfl, fun w hw => (by unfold Oper.quietAt; have c := K3.out w hw; go_simp)⟩) ?_
  simp only [Act.put, List.setIfInBounds_toArray, List.set_cons_zero, List.set_cons_succ]
  refine wpAnyU_take (i := 5) (v := _) HS.out (by rfl) (by kernel_rfl) (by kernel_rfl) (by kernel_rfl) (fun _ _ d _ _ h => by cases d <;> exact h) hdr (Steady.of_yields (Or.inl ⟨by rfl, fun w => (by go_simp; with_reducible rfl)⟩)) ?_
  simp only [Act.put, List.setIfInBounds_toArray, List.set_cons_zero, List.set_cons_succ]
  refine wpAnyU_take (i := 8) (v := _) HS.out (by rfl) (by kernel_rfl) (by kernel_rfl) (by kernel_rfl) (fun _ _ d _ _ h => by cases d <;> exact h) hdr (Steady.of_yields (Or.inl ⟨by rfl, fun w => (by go_simp; with_reducible rfl)⟩)) ?_
  simp only [Act.put, List.setIfInBounds_toArray, List.set_cons_zero, List.set_cons_succ]
  have hA2 := hA0.drew
  have hX2 := hX0.drew
  have hO2 : Only g w w1.drew := only_drew hO0
  have hs2 := hdr
  obtain ⟨w2, hw2⟩ : ∃ w2, w1.drew = w2 := ⟨_, rfl⟩
  rw [hw2] at hA2 hX2 hO2 hs2 ⊢
  clear hX0 hA0 hO0 hs0 hdr hw1 hw2
  refine wpAnyU_two (i := 3) (k := 6) (by rfl) (by rfl) (by kernel_rfl) (fun w3 hq => ?_) (fun w3 hq => ?_)
  · have hA3 := hA2.keep hq
    have hO3 := hO2.trans (Only.of_below hq g)
    have hs3 := seen_up _ _ hs2 hq
    have hX3 := hX2.keep hq
    clear hA2 hO2 hs2 hq hX2
    have c6 : w3.cell? ⟨g, 6, none⟩ = some (.int .u64 c) := by rw [List.nil_append] at hA3; exact at_off hA3 LA.out (i := 0) (by simp)
    refine wpList_own (by rfl) ?_
    have SK : Keep (Seen g b2 b3 w3) := ⟨hs3⟩
    clear hs3
    go_wp2
    refine ⟨SK.out, ?_⟩
    have hs3 := SK.out
    clear SK c6
    refine wpAnyU_run (i := 6) (by rfl) (by kernel_rfl) (fun w4 hq => ?_)
    have hA4 := hA3.keep hq
    have hO4 := hO3.trans (Only.of_below hq g)
    have hs4 := seen_up _ _ hs3 hq
    have hX4 := hX3.keep hq
    clear hA3 hO3 hs3 hq hX3
    refine wpList_own (by rfl) ?_
    go_wp2_with (go_at_call 57
                 refine (fpTimes_c g 0 w.heap.size t 24 [] a (c :: r) res rfl LA.out WA.out LR.out WR.out x XX.out hgl _ hA4 hX4).mono ?_
                 rintro e w5 ⟨o, cy, rfl, hA5, hlo, hwo, hno, hc0, hc1, ho⟩
                 have hO5 := hO4.trans ho
                 have SK : Keep (Seen g b2 b3 w5) := ⟨seen_only hs4 ho h2g h3g⟩
                 have HNO : Keep _ := ⟨And.intro hlo (And.intro hwo (And.intro hno (And.intro hc0 hc1)))⟩
                 clear hX4 hA4 hO4 hs4 ho hlo hwo hno hc0 hc1)
    refine ⟨SK.out, ?_⟩
    rw [List.nil_append] at hA5
    have hs5 := SK.out
    clear SK
    have hcc : 0 ≤ c + cy ∧ c + cy ≤ 18446744073709551615 := by
      have h1 := VV.out
      have h2 := HNO.out.2.2.1
      have h3 := (num6 HNO.out.2.1 HNO.out.1).1
      have h4 := HNO.out.2.2.2
      have h5 := CC.out
      rw [show wp 7 = wp 6 * 18446744073709551616 from wp_succ 6, wp_six] at h1
      rw [wp_six] at h2
      generalize x * num res = q at *
      generalize num a = q2 at *
      generalize num o = q3 at *
      omega
    have hwr : IntKind.u64.wrap (c + cy) = c + cy := by rw [IntKind.wrap_u64]; omega
    obtain ⟨c', hc'⟩ : ∃ c', c + cy = c' := ⟨_, rfl⟩
    rw [hc'] at hwr hcc
    have HC : Keep _ := ⟨hc'⟩
    have HW : Keep (IntKind.u64.wrap (c + cy) = c') := ⟨by rw [hc', hwr]⟩
    have HCC : Keep _ := ⟨hcc⟩
    clear hc' hwr hcc
    refine wpAnyU_take (i := 7) (v := (.int .u64 c')) HS.out (by rfl) (by kernel_rfl) (by kernel_rfl) (by kernel_rfl) (fun _ _ d _ _ h => by cases d <;> exact h) hs5 (Steady.of_yields (Or.inl ⟨by rfl, fun w => (by have h := HW.out; go_simp)⟩)) ?_
    simp only [Act.put, List.setIfInBounds_toArray, List.set_cons_zero, List.set_cons_succ]
    refine wpAnyU_take (i := 9) (v := _) HS.out (by rfl) (by kernel_rfl) (by kernel_rfl) (by kernel_rfl) (fun _ _ d _ _ h => by cases d <;> exact h) hs5 (Steady.of_yields (Or.inl ⟨by rfl, fun w => (by go_simp; with_reducible rfl)⟩)) ?_
    simp only [Act.put, List.setIfInBounds_toArray, List.set_cons_zero, List.set_cons_succ]
    refine wpAnyU_run (i := 10) (by rfl) (by kernel_rfl) (fun w6 hq => ?_)
    have hA6 := hA5.keep hq
    have hO6 := hO5.trans (Only.of_below hq g)
    have hs6 := seen_up _ _ hs5 hq
    clear hA5 hO5 hs5 hq
    refine store_word (by rfl) 22 (.tmp 15) (.tmp 13) (by rfl) (by rfl) g 6 (by rfl) .u64 c' (by rfl) (by kernel_rfl) t _ hA6 (by simp; have := HNO.out.1; omega) _ (set_six HNO.out.1) (fun w9 hA9 ho => ?_)
    have hO9 := hO6.trans ho
    refine ⟨seen_only hs6 ho h2g h3g, wpAnyU_end (by kernel_rfl) (fun w10 hq => ?_)⟩
    have hA10 := hA9.keep hq
    have hO10 := hO9.trans (Only.of_below hq g)
    go_wp2
    go_end0
    refine ⟨rfl, o, c', hA10, HNO.out.1, HNO.out.2.1, HCC.out.1, HCC.out.2, ?_, hO10⟩
    have h1 := HNO.out.2.2.1
    have h2 := HC.out
    grind
  · have hA3 := hA2.keep hq
    have hO3 := hO2.trans (Only.of_below hq g)
    have hs3 := seen_up _ _ hs2 hq
    have hX3 := hX2.keep hq
    clear hA2 hO2 hs2 hq hX2
    refine wpList_own (by rfl) ?_
    go_wp2_with (go_at_call 57
                 refine (fpTimes_c g 0 w.heap.size t 24 [] a (c :: r) res rfl LA.out WA.out LR.out WR.out x XX.out hgl _ hA3 hX3).mono ?_
                 rintro e w4 ⟨o, cy, rfl, hA4, hlo, hwo, hno, hc0, hc1, ho⟩
                 have hO4 := hO3.trans ho
                 have SK : Keep (Seen g b2 b3 w4) := ⟨seen_only hs3 ho h2g h3g⟩
                 have HNO : Keep _ := ⟨And.intro hlo (And.intro hwo (And.intro hno (And.intro hc0 hc1)))⟩
                 clear hX3 hA3 hO3 hs3 ho hlo hwo hno hc0 hc1)
    refine ⟨SK.out, ?_⟩
    rw [List.nil_append] at hA4
    have hs4 := SK.out
    clear SK
    refine wpAnyU_run (i := 3) (by rfl) (by kernel_rfl) (fun w5 hq => ?_)
    have hA5 := hA4.keep hq
    have hO5 := hO4.trans (Only.of_below hq g)
    have hs5 := seen_up _ _ hs4 hq
    clear hA4 hO4 hs4 hq
    have c6 : w5.cell? ⟨g, 6, none⟩ = some (.int .u64 c) := at_off hA5 HNO.out.1 (i := 0) (by simp)
    refine wpList_own (by rfl) ?_
    have SK : Keep (Seen g b2 b3 w5) := ⟨hs5⟩
    clear hs5
    go_wp2
    refine ⟨SK.out, ?_⟩
    have hs5 := SK.out
    clear SK c6
    have hcc : 0 ≤ c + cy ∧ c + cy ≤ 18446744073709551615 := by
      have h1 := VV.out
      have h2 := HNO.out.2.2.1
      have h3 := (num6 HNO.out.2.1 HNO.out.1).1
      have h4 := HNO.out.2.2.2
      have h5 := CC.out
      rw [show wp 7 = wp 6 * 18446744073709551616 from wp_succ 6, wp_six] at h1
      rw [wp_six] at h2
      generalize x * num res = q at *
      generalize num a = q2 at *
      generalize num o = q3 at *
      omega
    have hwr : IntKind.u64.wrap (c + cy) = c + cy := by rw [IntKind.wrap_u64]; omega
    obtain ⟨c', hc'⟩ : ∃ c', c + cy = c' := ⟨_, rfl⟩
    rw [hc'] at hwr hcc
    have HC : Keep _ := ⟨hc'⟩
    have HW : Keep (IntKind.u64.wrap (c + cy) = c') := ⟨by rw [hc', hwr]⟩
    have HCC : Keep _ := ⟨hcc⟩
    clear hc' hwr hcc
    refine wpAnyU_take (i := 7) (v := (.int .u64 c')) HS.out (by rfl) (by kernel_rfl) (by kernel_rfl) (by kernel_rfl) (fun _ _ d _ _ h => by cases d <;> exact h) hs5 (Steady.of_yields (Or.inl ⟨by rfl, fun w => (by have h := HW.out; go_simp)⟩)) ?_
    simp only [Act.put, List.setIfInBounds_toArray, List.set_cons_zero, List.set_cons_succ]
    refine wpAnyU_take (i := 9) (v := _) HS.out (by rfl) (by kernel_rfl) (by kernel_rfl) (by kernel_rfl) (fun _ _ d _ _ h => by cases d <;> exact h) hs5 (Steady.of_yields (Or.inl ⟨by rfl, fun w => (by go_simp; with_reducible rfl)⟩)) ?_
    simp only [Act.put, List.setIfInBounds_toArray, List.set_cons_zero, List.set_cons_succ]
    refine wpAnyU_run (i := 10) (by rfl) (by kernel_rfl) (fun w6 hq => ?_)
    have hA6 := hA5.keep hq
    have hO6 := hO5.trans (Only.of_below hq g)
    have hs6 := seen_up _ _ hs5 hq
    clear hA5 hO5 hs5 hq
    refine store_word (by rfl) 22 (.tmp 15) (.tmp 13) (by rfl) (by rfl) g 6 (by rfl) .u64 c' (by rfl) (by kernel_rfl) t _ hA6 (by simp; have := HNO.out.1; omega) _ (set_six HNO.out.1) (fun w9 hA9 ho => ?_)
    have hO9 := hO6.trans ho
    refine ⟨seen_only hs6 ho h2g h3g, wpAnyU_end (by kernel_rfl) (fun w10 hq => ?_)⟩
    have hA10 := hA9.keep hq
    have hO10 := hO9.trans (Only.of_below hq g)
    go_wp2
    go_end0
    refine ⟨rfl, o, c', hA10, HNO.out.1, HNO.out.2.1, HCC.out.1, HCC.out.2, ?_, hO10⟩
    have h1 := HNO.out.2.2.1
    have h2 := HC.out
    grind
end Go.Proofs.YtmohopjblhgdiaaDoor.Fp
