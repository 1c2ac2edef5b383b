/-
  Own text. The contract of Mul of layer 9's reference.
-/
import Derived.Test.YtpkbbdhpdplkeaaDoorFp6Ref
import Derived.Test.YtpkbbdhpdplkeaaDoorRegH
import Derived.Test.YtpkbbdhpdplkeaaDoorRegG
import Derived.Deep.LoopGhost
namespace Go.Proofs.YtpkbbdhpdplkeaaDoor.Fp6
set_option linter.unusedVariables false
set_option linter.unusedSimpArgs false
open Go Go.RowKit Go.Proofs.YtpkbbdhpdplkeaaDoor.Reg Go.Proofs.YtpkbbdhpdplkeaaDoor.Base Go.Proofs.YtpkbbdhpdplkeaaDoor.Limb Go.Proofs.YtpkbbdhpdplkeaaDoor.Fp Go.Proofs.YtpkbbdhpdplkeaaDoor.Fp2

/-- Five numbers with u, in one row; one of them written. -/
def put (off : Nat) (ys l : List Int) : List Int := l.take off ++ (ys ++ l.drop (off + ys.length))
theorem put_nm {n off : Nat} {ys l : List Int} (h : Nm n l) (hy : Nm 12 ys) (ho : off + 12 ≤ n) : Nm n (put off ys l) :=
  ⟨by rw [put, List.length_append, List.length_append, List.length_take, List.length_drop, h.len, hy.len]; omega, words_append (words_take h.words _) (words_append hy.words (words_drop h.words _))⟩
theorem seg_put {n off : Nat} {ys l : List Int} (h : Nm n l) (hy : Nm 12 ys) (ho : off + 12 ≤ n) : seg off 12 (put off ys l) = ys := by
  have h1 : (l.take off).length = off := by rw [List.length_take, h.len]; omega
  rw [seg, put, List.drop_left' h1, List.take_left' hy.len]
theorem seg_far {n off i : Nat} {ys l : List Int} (h : Nm n l) (hy : Nm 12 ys) (ho : off + 12 ≤ n) (hi : i + 12 ≤ n) (hne : i + 12 ≤ off ∨ off + 12 ≤ i) : seg i 12 (put off ys l) = seg i 12 l := by
  have h1 : (l.take off).length = off := by rw [List.length_take, h.len]; omega
  have hyl := hy.len
  apply List.ext_getElem?
  intro j
  rw [seg, seg, List.getElem?_take, List.getElem?_take]
  split
  · rw [List.getElem?_drop, List.getElem?_drop, put]
    rcases hne with hne | hne
    · rw [List.getElem?_append_left (by omega), List.getElem?_take, if_pos (by omega)]
    · rw [List.getElem?_append_right (by omega), List.getElem?_append_right (by omega), List.getElem?_drop, h1, hyl]
      congr 1
      omega
  · rfl
def tn (a b : List Int) : Nat → List Int
  | 0 => List.replicate 60 0
  | s + 1 => put ((s / 3 + s % 3) * 12) (F2 (ga (v2 (seg ((s / 3 + s % 3) * 12) 12 (tn a b s))) (v2 (F2 (gm (v2 (seg (s / 3 * 12) 12 a)) (v2 (seg (s % 3 * 12) 12 b))))))) (tn a b s)
section
variable {a b : List Int}
theorem tn_nm : ∀ s, s ≤ 9 → Nm 60 (tn a b s)
  | 0, _ => ⟨rfl, words_zeros 60⟩
  | s + 1, h => put_nm (tn_nm s (by omega)) (.F2 _) (by omega)
theorem tn_hit {s j : Nat} (hs : s < 9) (hj : j = s / 3 + s % 3) : seg (j * 12) 12 (tn a b (s + 1)) = F2 (ga (v2 (seg (j * 12) 12 (tn a b s))) (v2 (F2 (gm (v2 (seg (s / 3 * 12) 12 a)) (v2 (seg (s % 3 * 12) 12 b)))))) := by
  subst hj
  exact seg_put (tn_nm s (by omega)) (.F2 _) (by omega)
theorem tn_miss {s j : Nat} (hs : s < 9) (hj5 : j < 5) (hj : j ≠ s / 3 + s % 3) : seg (j * 12) 12 (tn a b (s + 1)) = seg (j * 12) 12 (tn a b s) :=
  seg_far (tn_nm s (by omega)) (.F2 _) (by omega) (by omega) (by omega)
/-- The row's part j, from step to step. -/
theorem tn_go {s j : Nat} {x y z : G} (hs : s < 9) (hj : j = s / 3 + s % 3) (hx : v2 (seg (s / 3 * 12) 12 a) = x) (hy : v2 (seg (s % 3 * 12) 12 b) = y) (h : E2 (v2 (seg (j * 12) 12 (tn a b s))) z) : E2 (v2 (seg (j * 12) 12 (tn a b (s + 1)))) (ga z (gm x y)) := by
  rw [tn_hit hs hj, hx, hy]
  exact (v2_F2 _).trans (ga_congr h (v2_F2 _))
theorem tn_stay {s j : Nat} {z : G} (hs : s < 9) (hj5 : j < 5) (hj : j ≠ s / 3 + s % 3) (h : E2 (v2 (seg (j * 12) 12 (tn a b s))) z) : E2 (v2 (seg (j * 12) 12 (tn a b (s + 1)))) z := by
  rw [tn_miss hs hj5 hj]
  exact h
theorem tn_zero {j : Nat} (hj : j < 5) : E2 (v2 (seg (j * 12) 12 (tn a b 0))) (0, 0) := by
  have : ∀ j, j < 5 → v2 (seg (j * 12) 12 (List.replicate 60 0)) = (0, 0) := by decide +kernel
  rw [tn, this j hj]
  exact E2.rfl
end
theorem zero_ga (z : G) : ga (0, 0) z = z := by rw [ga_comm, ga_zero]
section
variable (a b : List Int)
theorem tn_0 : E2 (v2 (seg 0 12 (tn a b 9))) (gm (v2 (seg 0 12 a)) (v2 (seg 0 12 b))) := by
  have h := (tn_stay (s := 8) (by decide) (by decide) (by decide) (tn_stay (s := 7) (by decide) (by decide) (by decide) (tn_stay (s := 6) (by decide) (by decide) (by decide) (tn_stay (s := 5) (by decide) (by decide) (by decide) (tn_stay (s := 4) (by decide) (by decide) (by decide) (tn_stay (s := 3) (by decide) (by decide) (by decide) (tn_stay (s := 2) (by decide) (by decide) (by decide) (tn_stay (s := 1) (by decide) (by decide) (by decide) (tn_go (s := 0) (by decide) (by decide) rfl rfl (tn_zero (a := a) (b := b) (j := 0) (by decide)))))))))))
  rw [zero_ga] at h
  exact h
theorem tn_1 : E2 (v2 (seg 12 12 (tn a b 9))) (ga (gm (v2 (seg 0 12 a)) (v2 (seg 12 12 b))) (gm (v2 (seg 12 12 a)) (v2 (seg 0 12 b)))) := by
  have h := (tn_stay (s := 8) (by decide) (by decide) (by decide) (tn_stay (s := 7) (by decide) (by decide) (by decide) (tn_stay (s := 6) (by decide) (by decide) (by decide) (tn_stay (s := 5) (by decide) (by decide) (by decide) (tn_stay (s := 4) (by decide) (by decide) (by decide) (tn_go (s := 3) (by decide) (by decide) rfl rfl (tn_stay (s := 2) (by decide) (by decide) (by decide) (tn_go (s := 1) (by decide) (by decide) rfl rfl (tn_stay (s := 0) (by decide) (by decide) (by decide) (tn_zero (a := a) (b := b) (j := 1) (by decide)))))))))))
  rw [zero_ga] at h
  exact h
theorem tn_2 : E2 (v2 (seg 24 12 (tn a b 9))) (ga (ga (gm (v2 (seg 0 12 a)) (v2 (seg 24 12 b))) (gm (v2 (seg 12 12 a)) (v2 (seg 12 12 b)))) (gm (v2 (seg 24 12 a)) (v2 (seg 0 12 b)))) := by
  have h := (tn_stay (s := 8) (by decide) (by decide) (by decide) (tn_stay (s := 7) (by decide) (by decide) (by decide) (tn_go (s := 6) (by decide) (by decide) rfl rfl (tn_stay (s := 5) (by decide) (by decide) (by decide) (tn_go (s := 4) (by decide) (by decide) rfl rfl (tn_stay (s := 3) (by decide) (by decide) (by decide) (tn_go (s := 2) (by decide) (by decide) rfl rfl (tn_stay (s := 1) (by decide) (by decide) (by decide) (tn_stay (s := 0) (by decide) (by decide) (by decide) (tn_zero (a := a) (b := b) (j := 2) (by decide)))))))))))
  rw [zero_ga] at h
  exact h
theorem tn_3 : E2 (v2 (seg 36 12 (tn a b 9))) (ga (gm (v2 (seg 12 12 a)) (v2 (seg 24 12 b))) (gm (v2 (seg 24 12 a)) (v2 (seg 12 12 b)))) := by
  have h := (tn_stay (s := 8) (by decide) (by decide) (by decide) (tn_go (s := 7) (by decide) (by decide) rfl rfl (tn_stay (s := 6) (by decide) (by decide) (by decide) (tn_go (s := 5) (by decide) (by decide) rfl rfl (tn_stay (s := 4) (by decide) (by decide) (by decide) (tn_stay (s := 3) (by decide) (by decide) (by decide) (tn_stay (s := 2) (by decide) (by decide) (by decide) (tn_stay (s := 1) (by decide) (by decide) (by decide) (tn_stay (s := 0) (by decide) (by decide) (by decide) (tn_zero (a := a) (b := b) (j := 3) (by decide)))))))))))
  rw [zero_ga] at h
  exact h
theorem tn_4 : E2 (v2 (seg 48 12 (tn a b 9))) (gm (v2 (seg 24 12 a)) (v2 (seg 24 12 b))) := by
  have h := (tn_go (s := 8) (by decide) (by decide) rfl rfl (tn_stay (s := 7) (by decide) (by decide) (by decide) (tn_stay (s := 6) (by decide) (by decide) (by decide) (tn_stay (s := 5) (by decide) (by decide) (by decide) (tn_stay (s := 4) (by decide) (by decide) (by decide) (tn_stay (s := 3) (by decide) (by decide) (by decide) (tn_stay (s := 2) (by decide) (by decide) (by decide) (tn_stay (s := 1) (by decide) (by decide) (by decide) (tn_stay (s := 0) (by decide) (by decide) (by decide) (tn_zero (a := a) (b := b) (j := 4) (by decide)))))))))))
  rw [zero_ga] at h
  exact h
end
theorem segs3 {l : List Int} (h : Nm 36 l) : seg 0 12 l ++ seg 12 12 l ++ seg 24 12 l = l := by
  have e0 : seg 0 12 l = l.take 12 := rfl
  have e2 : seg 24 12 l = l.drop 24 := List.take_of_length_le (by rw [List.length_drop, h.len]; omega)
  rw [e0, e2, show seg 12 12 l = (l.drop 12).take 12 from rfl, List.append_assoc, show l.drop 24 = (l.drop 12).drop 12 by rw [List.drop_drop], List.take_append_drop, List.take_append_drop]
theorem built33 (parts : List (Nat × Value)) : Tryd.prog.built 42 parts = Instr.fill (fun i => some (i * 12, 12)) (vals .u64 (List.replicate (12 + 12 + 12) 0)) parts := by kernel_rfl
theorem build33 {l : List Int} (h : Nm 36 l) : Tryd.prog.built 42 [(0, .agg (vals .u64 (seg 0 12 l))), (1, .agg (vals .u64 (seg 12 12 l))), (2, .agg (vals .u64 (seg 24 12 l)))] = some (vals .u64 l) := by
  have hx : (seg 0 12 l).length = 12 := (h.seg (by decide)).len
  have hy : (seg 12 12 l).length = 12 := (h.seg (by decide)).len
  have hz : (seg 24 12 l).length = 12 := (h.seg (by decide)).len
  rw [built33, fill_part (off := 0) (n := 12) rfl hx (by simp), fill_part (off := 12) (n := 12) rfl hy (by simp [hx]), fill_part (off := 24) (n := 12) rfl hz (by simp [hx, hy])]
  simp only [Instr.fill, List.take_zero, List.nil_append, Nat.zero_add]
  rw [List.take_left' hx, List.take_left' (l₁ := seg 0 12 l ++ seg 12 12 l) (by simp [hx, hy]), List.drop_eq_nil_of_le (by simp [hx, hy]), List.append_nil, segs3 h]
theorem mul6_v (a b : List Int) : F2 (ga (v2 (seg 0 12 (tn a b 9))) (v2 (F2 (gm (v2 (seg 36 12 (tn a b 9))) (1, 1))))) ++ F2 (ga (v2 (seg 12 12 (tn a b 9))) (v2 (F2 (gm (v2 (seg 48 12 (tn a b 9))) (1, 1))))) ++ seg 24 12 (tn a b 9) = F6 (hm (v6 a) (v6 b)) := by
  have h2 : seg 24 12 (tn a b 9) = F2 (hm (v6 a) (v6 b)).2.2 := by
    rw [show seg 24 12 (tn a b 9) = seg (2 * 12) 12 (tn a b 9) from rfl, tn_miss (s := 8) (by decide) (by decide) (by decide), tn_miss (s := 7) (by decide) (by decide) (by decide), tn_hit (s := 6) (by decide) (by decide)]
    have h := tn_2 a b
    rw [show seg 24 12 (tn a b 9) = seg (2 * 12) 12 (tn a b 9) from rfl, tn_miss (s := 8) (by decide) (by decide) (by decide), tn_miss (s := 7) (by decide) (by decide) (by decide), tn_hit (s := 6) (by decide) (by decide)] at h
    exact F2_eq ((v2_F2 _).symm.trans h)
  rw [h2, F6]
  rw [F2_eq (ga_congr (tn_0 a b) ((v2_F2 _).trans (gm_congr (tn_3 a b) E2.rfl))), F2_eq (ga_congr (tn_1 a b) ((v2_F2 _).trans (gm_congr (tn_4 a b) E2.rfl)))]
  rfl

set_option maxRecDepth 100000 in
set_option maxHeartbeats 4000000 in
theorem refMul6 (a : List Int) (ha : Nm 36 a) (b : List Int) (hb : Nm 36 b) (w : World) : Calls Tryd.prog 21 #[.agg (vals .u64 a), .agg (vals .u64 b)] w fun e w' => e = .returned (.agg (vals .u64 (F6 (hm (v6 a) (v6 b))))) ∧ Below w.heap.size w w' := by
  have LA : Keep (Nm 36 a) := ⟨ha⟩
  have LB : Keep (Nm 36 b) := ⟨hb⟩
  obtain ⟨S, hS⟩ : ∃ S, w.heap.size = S := ⟨_, rfl⟩
  have Lo : Keep (Fp6.Z36.length = 36) := ⟨rfl⟩
  have qa0 : Has (((w.alloc (.cells (vals .u64 a) 28)).alloc (.cells (vals .u64 b) 28)).alloc (.cells (vals .u64 Fp6.Z36) 28)) (S) 28 (vals .u64 a) := (((Has.new' _ hS.symm _ _).alloc _).alloc _)
  have qb0 : Has (((w.alloc (.cells (vals .u64 a) 28)).alloc (.cells (vals .u64 b) 28)).alloc (.cells (vals .u64 Fp6.Z36) 28)) (S + 1) 28 (vals .u64 b) := ((Has.new' _ (by simp only [World.size_alloc, hS]) _ _).alloc _)
  have qo0 : Has (((w.alloc (.cells (vals .u64 a) 28)).alloc (.cells (vals .u64 b) 28)).alloc (.cells (vals .u64 Fp6.Z36) 28)) (S + 2) 28 (vals .u64 Fp6.Z36) := (Has.new' _ (by simp only [World.size_alloc, hS]) _ _)
  have hb0 : Below S w (((w.alloc (.cells (vals .u64 a) 28)).alloc (.cells (vals .u64 b) 28)).alloc (.cells (vals .u64 Fp6.Z36) 28)) := by rw [← hS]; exact ((((Below.refl _ _).alloc (Nat.le_refl _) _).alloc (by simp <;> omega) _).alloc (by simp <;> omega) _)
  have hsz0 : (((w.alloc (.cells (vals .u64 a) 28)).alloc (.cells (vals .u64 b) 28)).alloc (.cells (vals .u64 Fp6.Z36) 28)).heap.size = S + 3 := by simp only [World.size_alloc, hS]
  have HSS : Keep (∀ x : World, Below S w x → S ≤ x.heap.size) := ⟨fun x hb => Nat.le_trans (by omega) hb.size⟩
  rw [hS]
  go_enter Tryd.func21, Tryd.ntmps21
  go_wp2_with (first
    | (refine store_abs2 (by rfl) 42 (.tmp 6) (.tmp 23) (by rfl) (by rfl) (w1.heap.size) (vals .u64 b) (by rfl) (by rfl) 42 (vals .u64 Fp6.Z36) (Has.new' _ rfl _ _) (by rw [vals_size, hb.len]; kernel_rfl) (by rw [vals_size, vals_size, hb.len]; rfl) vals_one ?_
       intro w2 qy2 hkeep hbg
       have hbe := ((Below.refl w1.heap.size w1).alloc (Nat.le_refl _) (.cells (vals .u64 Fp6.Z36) 42)).trans hbg
       have Nay := qa1.lt
       have qa2 := qa1.keep hbe
       have Nby := qb1.lt
       have qb2 := qb1.keep hbe
       have Noy := qo1.lt
       have qo2 := qo1.keep hbe
       have Nxy := qx1.lt
       have qx2 := qx1.keep hbe
       have My : S ≤ w1.heap.size := HSS.out _ hb1
       have hb2 := hb1.trans (hbe.mono My)
       clear hkeep hbg hbe hb1 qa1 qb1 qo1 qx1)
    | (refine wpList_buildTo (by rfl) 42 #[(0, .tmp 18), (1, .tmp 20), (2, .tmp 22)] (by rfl) (some 23) (by rfl) _ (by rw [Array.toList_map]; exact build33 LB.out) ?_)
    | (refine load_seg (by rfl) 26 (.tmp 21) (by rfl) (S + 1) 24 12 (by rfl) 28 .u64 b (seg 24 12 b) _ qb1 Tryd.underlying26 rfl (by kernel_rfl) rfl (by rw [hb.len]; decide) ?_)
    | (refine load_seg (by rfl) 26 (.tmp 19) (by rfl) (S + 1) 12 12 (by rfl) 28 .u64 b (seg 12 12 b) _ qb1 Tryd.underlying26 rfl (by kernel_rfl) rfl (by rw [hb.len]; decide) ?_)
    | (refine load_seg (by rfl) 26 (.tmp 17) (by rfl) (S + 1) 0 12 (by rfl) 28 .u64 b (seg 0 12 b) _ qb1 Tryd.underlying26 rfl (by kernel_rfl) rfl (by rw [hb.len]; decide) ?_)
    | (refine store_abs2 (by rfl) 42 (.tmp 5) (.tmp 16) (by rfl) (by rfl) (S + 3) (vals .u64 a) (by rfl) (by rfl) 42 (vals .u64 Fp6.Z36) (Has.new' _ (by simp only [World.size_alloc, hS]) _ _) (by rw [vals_size, LA.out.len]; kernel_rfl) (by rw [vals_size, vals_size, LA.out.len]; rfl) vals_one ?_
       intro w1 qx1 hkeep hbg
       have hbe := ((Below.refl (((w.alloc (.cells (vals .u64 a) 28)).alloc (.cells (vals .u64 b) 28)).alloc (.cells (vals .u64 Fp6.Z36) 28)).heap.size (((w.alloc (.cells (vals .u64 a) 28)).alloc (.cells (vals .u64 b) 28)).alloc (.cells (vals .u64 Fp6.Z36) 28))).alloc (Nat.le_refl _) (.cells (vals .u64 Fp6.Z36) 42)).trans (by rw [hsz0]; exact hbg)
       have qa1 := qa0.keep hbe
       have qb1 := qb0.keep hbe
       have qo1 := qo0.keep hbe
       have hb1 := hb0.trans (hbe.mono (by rw [hsz0]; omega))
       clear hkeep hbg hbe hb0 qa0 qb0 qo0)
    | (refine wpList_buildTo (by rfl) 42 #[(0, .tmp 11), (1, .tmp 13), (2, .tmp 15)] (by rfl) (some 16) (by rfl) _ (by rw [Array.toList_map]; exact build33 LA.out) ?_)
    | (refine load_seg (by rfl) 26 (.tmp 14) (by rfl) (S) 24 12 (by rfl) 28 .u64 a (seg 24 12 a) _ qa0 Tryd.underlying26 rfl (by kernel_rfl) rfl (by rw [ha.len]; decide) ?_)
    | (refine load_seg (by rfl) 26 (.tmp 12) (by rfl) (S) 12 12 (by rfl) 28 .u64 a (seg 12 12 a) _ qa0 Tryd.underlying26 rfl (by kernel_rfl) rfl (by rw [ha.len]; decide) ?_)
    | (refine load_seg (by rfl) 26 (.tmp 10) (by rfl) (S) 0 12 (by rfl) 28 .u64 a (seg 0 12 a) _ qa0 Tryd.underlying26 rfl (by kernel_rfl) rfl (by rw [ha.len]; decide) ?_))
  obtain ⟨gy6, hgy6⟩ : ∃ g, w1.heap.size = g := ⟨_, rfl⟩
  rw [hgy6] at qy2 Nxy Nby Nay Noy My ⊢
  clear hgy6
  have qt3 : Has (w2.alloc (.cells (vals .u64 (List.replicate 60 0)) 44)) w2.heap.size 44 (vals .u64 (tn a b 0)) := Has.new _ _ _
  have hbe := (Below.refl w2.heap.size w2).alloc (Nat.le_refl _) (.cells (vals .u64 (List.replicate 60 0)) 44)
  have qx3 := qx2.keep hbe
  have qy3 := qy2.keep hbe
  have qo3 := qo2.keep hbe
  have hltx := qx2.lt
  have hlty := qy2.lt
  have hlto := qo2.lt
  have hb3 := hb2.trans (hbe.mono (HSS.out _ hb2))
  have hgt := HSS.out _ hb2
  clear hbe qx2 qy2 qo2 qa2 qb2 hb2
  obtain ⟨gt7, hgt7⟩ : ∃ g, w2.heap.size = g := ⟨_, rfl⟩
  rw [hgt7] at qt3 hltx hlty hlto hgt ⊢
  clear hgt7
  go_loopg [8] 3 (fun (gk : Nat) vi wr => ∃ i, i + gk = 3 ∧ vi = .int .i64 (i : Int) ∧ Has wr gt7 44 (vals .u64 (tn a b (3 * i))) ∧ Has wr (S + 3) 42 (vals .u64 a) ∧ Has wr gy6 42 (vals .u64 b) ∧ Has wr (S + 2) 28 (vals .u64 Fp6.Z36) ∧ Below S w wr)
  case atStart => exact ⟨0, rfl, rfl, qt3, qx3, qy3, qo3, hb3⟩
  case round =>
    clear qt3 qx3 qy3 qo3 hb3
    obtain ⟨i, hk, rfl, qt, qx, qy, qo, hb0⟩ := hrel
    rcases gk with _ | m
    · obtain rfl : i = 3 := by omega
      rw [show 3 * 3 = 9 from rfl] at qt
      have NT : Nm 60 (tn a b 9) := tn_nm 9 (by omega)
      obtain ⟨T, hT⟩ : ∃ T, tn a b 9 = T := ⟨_, rfl⟩
      have HM := mul6_v a b
      rw [hT] at qt NT HM
      clear hT hk qx qy
      go_wp2
      change Code.wp _ _ _ _ wr
      obtain ⟨w0, hw0⟩ : ∃ x, wr = x := ⟨_, rfl⟩
      rw [hw0] at hb0 qt qo ⊢
      clear hw0
      have qt0 := qt
      have qo0 := qo
      clear qt qo
      refine wp_reads 15 1 (S + 2) (by kernel_rfl) (by kernel_rfl) (by rfl) (by kernel_rfl) (fun _ _ d _ _ h => by cases d <;> exact h) ?_
      simp only [List.take_succ_cons, List.take_zero]
      repeat ((first
        | refine take_load (by rfl) 26 (by rfl) (g := gt7) (n := 12) (by rfl) (t := 44) (xs := T) (fun w hw => hw.has qt0 (by omega)) Tryd.underlying26 rfl (by kernel_rfl) (by rw [NT.len]; decide) ?_
        | refine take_loadw (by rfl) 44 (by rfl) (g := gt7) (n := 60) (by rfl) (t := 44) (xs := T) (fun w hw => hw.has qt0 (by omega)) Tryd.underlying44 rfl (by kernel_rfl) NT.len ?_
        | refine take_build (by rfl) (by rfl) (by refine build3 ?_ ?_ ?_ <;> (with_reducible first | exact Nm.F2 _ | exact Nm.F6 _ | assumption | (refine Nm.seg (m := 36) ?_ (by decide); assumption) | exact Nm.seg (m := 36) (Nm.F6 _) (by decide) | exact Nm.app3 (.F2 _) (.F2 _) (.F2 _) | exact Nm.seg NT (by decide) | exact Nm.app3 (.F2 _) (.F2 _) (NT.seg (by decide)) | fail)) ?_
        | refine wpTake_cons (.inl ⟨by rfl, fun w hw => (by unfold Oper.quietAt; go_simp; (first | with_reducible refine refAdd2 _ ?_ _ ?_ _ | with_reducible refine refXi2 _ ?_ _) <;> (with_reducible first | exact Nm.F2 _ | exact Nm.F6 _ | assumption | (refine Nm.seg (m := 36) ?_ (by decide); assumption) | exact Nm.seg (m := 36) (Nm.F6 _) (by decide) | exact Nm.app3 (.F2 _) (.F2 _) (.F2 _) | exact Nm.seg NT (by decide) | exact Nm.app3 (.F2 _) (.F2 _) (NT.seg (by decide)) | fail))⟩) ?_
        | refine wpTake_cons (Steady.of_yields (Or.inl ⟨by rfl, fun w => (by first | (go_simp; done) | (go_simp; with_reducible rfl))⟩)) ?_); simp only [List.getElem_toArray, List.getElem_cons_zero, List.getElem_cons_succ, Act.put, List.setIfInBounds_toArray, List.set_cons_zero, List.set_cons_succ])
      refine wpTake_nil ?_
      refine tail_store (i := 15) (by rfl) (by kernel_rfl) (by kernel_rfl) (by rfl) 28 (.tmp 4) (.tmp 63) (by rfl) (by rfl) (S + 2) _ (by rfl) (by rfl) 28 _ qo0 (by rw [vals_size, (Nm.app3 (.F2 _) (.F2 _) (NT.seg (by decide))).len]; kernel_rfl) (by rw [vals_size, vals_size, (Nm.app3 (.F2 _) (.F2 _) (NT.seg (by decide))).len]; rfl) vals_one ?_
      intro w1 qo1 hbt
      have qt1 := hbt.has qt0 (by omega)
      have hb1 := hb0.trans (hbt.below (by omega) (HSS.out _ hb0))
      clear hbt hb0 qt0 qo0
      go_wp2
      refine bodyPost_ret (v := .agg (vals .u64 _)) (results_cell_row rfl _ _ (S + 2) _ _ _ _ rfl qo1.eq Tryd.underlying28 rfl (by rw [vals_size, (Nm.app3 (.F2 _) (.F2 _) (NT.seg (by decide))).len]; kernel_rfl)) rfl ⟨ret_eq (congrArg (fun z => Value.agg (vals .u64 z)) (HM)), hb1⟩
    · have hi3 : i < 3 := by omega
      go_wp2
      go_loopg [9] 3 (fun (gk2 : Nat) vi wr => ∃ k, k + gk2 = 3 ∧ vi = .int .i64 (k : Int) ∧ Has wr gt7 44 (vals .u64 (tn a b (3 * i + k))) ∧ Has wr (S + 3) 42 (vals .u64 a) ∧ Has wr gy6 42 (vals .u64 b) ∧ Has wr (S + 2) 28 (vals .u64 Fp6.Z36) ∧ Below S w wr)
      case atStart => exact ⟨0, rfl, rfl, qt, qx, qy, qo, hb0⟩
      case round =>
        clear qt qx qy qo hb0
        obtain ⟨k, hk2, rfl, qt, qx, qy, qo, hb0⟩ := hrel
        rcases gk with _ | m2
        · obtain rfl : k = 3 := by omega
          go_wp2
          go_roundg m
          case measure => omega
          case rel => exact ⟨i + 1, by omega, by go_num, qt, qx, qy, qo, hb0⟩
        · have hk3 : k < 3 := by omega
          obtain ⟨e, he⟩ : ∃ e, i + k = e := ⟨_, rfl⟩
          have he5 : e < 5 := by omega
          have hei : (i : Int) + (k : Int) = (e : Int) := by omega
          have NT : Nm 60 (tn a b (3 * i + k)) := tn_nm _ (by omega)
          have HN : Keep (tn a b (3 * i + k + 1) = (tn a b (3 * i + k)).take (e * 12) ++ (F2 (ga (v2 (seg (e * 12) 12 (tn a b (3 * i + k)))) (v2 (F2 (gm (v2 (seg (i * 12) 12 a)) (v2 (seg (k * 12) 12 b)))))) ++ (tn a b (3 * i + k)).drop (e * 12 + (F2 (ga (v2 (seg (e * 12) 12 (tn a b (3 * i + k)))) (v2 (F2 (gm (v2 (seg (i * 12) 12 a)) (v2 (seg (k * 12) 12 b))))))).length))) := ⟨by
            have e1 : (3 * i + k) / 3 = i := by omega
            have e2 : (3 * i + k) % 3 = k := by omega
            rw [tn, e1, e2, he]
            rfl⟩
          obtain ⟨T, hT⟩ : ∃ T, tn a b (3 * i + k) = T := ⟨_, rfl⟩
          rw [hT] at qt NT HN
          obtain ⟨t0, ht0⟩ : ∃ z, seg (e * 12) 12 T = z := ⟨_, rfl⟩
          obtain ⟨x0, hx0⟩ : ∃ z, seg (i * 12) 12 a = z := ⟨_, rfl⟩
          obtain ⟨y0, hy0⟩ : ∃ z, seg (k * 12) 12 b = z := ⟨_, rfl⟩
          rw [ht0, hx0, hy0] at HN
          have nt0 : Nm 12 t0 := ht0 ▸ NT.seg (by omega)
          have nx0 : Nm 12 x0 := hx0 ▸ LA.out.seg (by omega)
          have ny0 : Nm 12 y0 := hy0 ▸ LB.out.seg (by omega)
          obtain ⟨p0, hp0⟩ : ∃ z, F2 (gm (v2 x0) (v2 y0)) = z := ⟨_, rfl⟩
          have np0 : Nm 12 p0 := hp0 ▸ .F2 _
          rw [hp0] at HN
          obtain ⟨r0, hr0⟩ : ∃ z, F2 (ga (v2 t0) (v2 p0)) = z := ⟨_, rfl⟩
          have nr0 : Nm 12 r0 := hr0 ▸ .F2 _
          rw [hr0] at HN
          have SEG : Keep (t0 = (T.drop (e * 12)).take 12 ∧ x0 = (a.drop (i * 12)).take 12 ∧ y0 = (b.drop (k * 12)).take 12) := ⟨ht0.symm, hx0.symm, hy0.symm⟩
          have TL : Keep (e * 12 + 12 ≤ T.length ∧ i * 12 + 12 ≤ a.length ∧ k * 12 + 12 ≤ b.length ∧ e * 12 + r0.length ≤ T.length ∧ r0.length = 12) := ⟨by rw [NT.len, LA.out.len, LB.out.len, nr0.len]; omega⟩
          have P1 : Keep (∀ x : World, _) := ⟨fun x => refMul2 x0 nx0 y0 ny0 x⟩
          have P2 : Keep (∀ x : World, _) := ⟨fun x => refAdd2 t0 nt0 p0 np0 x⟩
          rw [hp0] at P1
          rw [hr0] at P2
          clear ht0 hx0 hy0 hp0 hr0 NT nt0 nx0 ny0 np0 nr0 he
          go_wp2
          refine wp_fam 17 (by kernel_rfl) (by kernel_rfl) (fun I hI' fw hf hback => ?_)
          simp only [List.take_succ_cons, List.take_zero, List.drop_succ_cons, List.drop_zero]
          repeat (first
            | (go_big_quiet_want
               first
               | refine quiet_load_seg 26 (.tmp 38) (by rfl) gt7 (e * 12) 12 (by rfl) 44 .u64 T t0 _ (fun w' ⟨i, hi⟩ => by rw [hi]; exact qt.keep (hf i)) Tryd.underlying26 rfl (by kernel_rfl) SEG.out.1 TL.out.1 ?_
               | refine quiet_load_seg 26 (.tmp 41) (by rfl) (S + 3) (i * 12) 12 (by rfl) 42 .u64 a x0 _ (fun w' ⟨i, hi⟩ => by rw [hi]; exact qx.keep (hf i)) Tryd.underlying26 rfl (by kernel_rfl) SEG.out.2.1 TL.out.2.1 ?_
               | refine quiet_load_seg 26 (.tmp 44) (by rfl) gy6 (k * 12) 12 (by rfl) 42 .u64 b y0 _ (fun w' ⟨i, hi⟩ => by rw [hi]; exact qy.keep (hf i)) Tryd.underlying26 rfl (by kernel_rfl) SEG.out.2.2 TL.out.2.2.1 ?_
               simp only [Act.put, List.setIfInBounds_toArray, List.set_cons_zero, List.set_cons_succ]
               go_big_quiet_on)
            | go_big_quiet_step (first | fail | (go_at_call 38; with_reducible exact calls_fam hf hback (P1.out _)) | (go_at_call 35; with_reducible exact calls_fam hf hback (P2.out _))))
          refine wpQuiet_nil ?_
          intro w3 hq
          have qt3 := qt.keep hq
          have qx3 := qx.keep hq
          have qy3 := qy.keep hq
          have qo3 := qo.keep hq
          have hb3 := hb0.trans (hq.mono (HSS.out _ hb0))
          clear hf hback hq qt qx qy qo hb0
          refine store_seg (by rfl) 26 (.tmp 48) (.tmp 47) (by rfl) (by rfl) gt7 (e * 12) .u64 r0 (by rfl) (by rfl) 44 T qt3 (by rw [TL.out.2.2.2.2]; kernel_rfl) TL.out.2.2.2.1 _ HN.out.symm ?_
          intro w4 qt4 hon
          have qx4 := hon.has qx3 (by omega)
          have qy4 := hon.has qy3 (by omega)
          have qo4 := hon.has qo3 (by omega)
          have hb4 := hb3.trans (hon.below (B := S) (by omega) (HSS.out _ hb3))
          clear qt3 qx3 qy3 qo3 hb3 hon
          go_wp2
          go_roundg m2
          case measure => omega
          case rel => exact ⟨k + 1, by omega, by go_num, qt4, qx4, qy4, qo4, hb4⟩

end Go.Proofs.YtpkbbdhpdplkeaaDoor.Fp6
