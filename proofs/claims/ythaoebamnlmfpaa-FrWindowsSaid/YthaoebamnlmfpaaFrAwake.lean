/-
  Own text. The head of layer 6's statements.
-/
import Derived.Test.YthaoebamnlmfpaaFrOwn4
namespace Go.Proofs.Ythaoebamnlmfpaa.Fr
set_option linter.unusedVariables false
set_option linter.unusedSimpArgs false
open Go Go.RowKit Go.Proofs.Ythaoebamnlmfpaa.Num Go.Proofs.Ythaoebamnlmfpaa.Reg Go.Proofs.Ythaoebamnlmfpaa.Base Go.Proofs.Ythaoebamnlmfpaa.Limb Go.Proofs.Ythaoebamnlmfpaa.Bits

/-- A guarded operation whose guard holds. -/
theorem wpList_free {P : Program} {ops : Array Oper} {Q : Exit → Act → World → Prop} {o : Oper} {rest : List Oper} {a : Act} {w : World} (hw : Region.wanted o (yielded ops a.tmps) = true) (h : wpList P ops Q ({ o with guard := none } :: rest) a w) : wpList P ops Q (o :: rest) a w := by
  unfold wpList at h ⊢
  rw [if_pos hw]
  rw [if_pos (by rfl)] at h
  exact h
/-- The same for the operation of one slot: fails at once elsewhere. -/
theorem wpList_free_at (d : Nat) {P : Program} {ops : Array Oper} {Q : Exit → Act → World → Prop} {o : Oper} {rest : List Oper} {a : Act} {w : World} (hd : o.dst = some d) (hw : Region.wanted o (yielded ops a.tmps) = true) (h : wpList P ops Q ({ o with guard := none } :: rest) a w) : wpList P ops Q (o :: rest) a w := by
  unfold wpList at h ⊢
  rw [if_pos hw]
  rw [if_pos (by rfl)] at h
  exact h
/-- An array written out, in a drawn region. -/
theorem quiet_build {P : Program} {o : Oper} {a : Act} {C : World → Prop} {K : Act → Prop} (t : TypeId) (parts : Array (Nat × Operand)) (ho : o.op = .build t parts) (cells : Array Value)
    (hf : P.built t (parts.map fun (i, x) => (i, a.eval x)).toList = some cells) (hk : K (a.put o.dst (.agg cells))) : o.quiet P a C K := by
  refine ⟨.agg cells, fun w _ => ?_, hk⟩
  unfold Oper.quietAt execOp
  simp only [ho]
  have h : (Instr.build t (parts.map fun (i, x) => (i, a.eval x))).run P w = .ok (.agg cells) w := run_build w t _ cells hf
  simp only [Sem.run_bind, h, Result.andThen_ok]
  exact ⟨rfl, rfl⟩
theorem w4_1 : Words [1, 0, 0, 0] := words_of _ (by decide)
theorem w4_2 : Words [2, 0, 0, 0] := words_of _ (by decide)
theorem aw_nums : fr (num (fr (-(num [1, 0, 0, 0]))) + num [2, 0, 0, 0]) = [1, 0, 0, 0] ∧ fr (num (fr (-(num [1, 0, 0, 0]))) * num (fr (-(num [1, 0, 0, 0])))) = [1, 0, 0, 0] ∧ fr (bnum [1, 0]) = [256, 0, 0, 0] ∧ digs 2 (64 * 1) (num [7]) = [-1, 2] := by decide +kernel

set_option maxRecDepth 100000 in
set_option maxHeartbeats 4000000 in
theorem awake_c (w : World) : Calls Try.prog 11 #[] w fun e w' => e = .returned (.bool true) ∧ Below w.heap.size w w' := by
  have N1 : Keep (∀ x : World, _) := ⟨fun x => frNeg_c [1, 0, 0, 0] rfl w4_1 x⟩
  have A1 : Keep (∀ x : World, _) := ⟨fun x => frAdd_c (fr (-(num [1, 0, 0, 0]))) (fr_len _) (fr_words _) [2, 0, 0, 0] rfl w4_2 x⟩
  rw [aw_nums.1] at A1
  have M1 : Keep (∀ x : World, _) := ⟨fun x => frMul_c (fr (-(num [1, 0, 0, 0]))) (fr_len _) (fr_words _) (fr (-(num [1, 0, 0, 0]))) (fr_len _) (fr_words _) x⟩
  rw [aw_nums.2.1] at M1
  have F1 : Keep (∀ (y : World) (g : Nat), Has y g 5 (vals .u8 [1, 0]) → Calls Try.prog 26 #[.slice (some ⟨g, 0, none⟩) 2 2] y fun e y' => e = .returned (.agg (vals .u64 [256, 0, 0, 0])) ∧ Below y.heap.size y y') := ⟨fun y g h => by
    have h1 := frFromOctets_c (some ⟨g, 0, none⟩) 2 2 [1, 0] y.heap.size y (Rd.of_has h h.lt (by rfl) (by decide)) (bytes_of _ (by decide)) (Nat.le_refl _) (by omega)
    rw [aw_nums.2.2.1] at h1
    exact h1⟩
  have W1 : Keep (∀ (y : World) (g : Nat), Has y g 23 (vals .u64 [7]) → Calls Try.prog 30 #[.slice (some ⟨g, 0, none⟩) 1 1, .int .i64 2] y fun e y' => ∃ g' c', e = .returned (.tuple #[.slice (some ⟨g', 0, none⟩) 2 c', .int .i64 0]) ∧ Rd y' y'.heap.size (some ⟨g', 0, none⟩) 2 .i64 [-1, 2] ∧ Below y.heap.size y y') := ⟨fun y g h => by
    have h1 := frWindows_2 (some ⟨g, 0, none⟩) 1 1 [7] y.heap.size y (Rd.of_has h h.lt (by rfl) (by decide)) (words_of _ (by decide)) (Nat.le_refl _) (by omega)
    rw [aw_nums.2.2.2] at h1
    refine h1.mono ?_
    rintro e y' ⟨A', m, c', he, ho, hb⟩
    have hm := ho.len
    subst hm
    obtain ⟨g', rfl, -⟩ := ho.at_ (by decide)
    exact ⟨g', c', he, ho.rd, hb⟩⟩
  have W2 : Keep (∀ (y : World) (g : Nat), Has y g 23 (vals .u64 [5]) → Calls Try.prog 30 #[.slice (some ⟨g, 0, none⟩) 1 1, .int .i64 9] y fun e y' => e = .returned (.tuple #[.slice none 0 0, .int .i64 1]) ∧ Below y.heap.size y y') := ⟨fun y g _ => frWindows_no _ 1 1 9 y (by omega)⟩
  have B1 : Keep (∀ x : World, _) := ⟨fun x => frFromBytes_no none 0 0 x (by decide)⟩
  obtain ⟨m, hm⟩ : ∃ o, fr (-(num [1, 0, 0, 0])) = o := ⟨_, rfl⟩
  have Lm : Keep (m.length = 4) := ⟨hm ▸ fr_len _⟩
  rw [hm] at A1 M1 N1
  clear hm
  have LZ : Keep (Z4.length = 4) := ⟨rfl⟩
  have E1 := eq4 [1, 0, 0, 0] rfl
  have E2 := eq4 [256, 0, 0, 0] rfl
  have hgd := gd4
  obtain ⟨S, hS⟩ : ∃ S, w.heap.size = S := ⟨_, rfl⟩
  have hsz0 : w.heap.size = S + 0 := hS
  have hb0 : Below S w w := Below.refl _ _
  have HSS : Keep (∀ x : World, Below S w x → S ≤ x.heap.size) := ⟨fun x hb => by have := hb.size; omega⟩
  rw [hS]
  go_enter Try.func11, Try.ntmps11
  go_wp2_with (first
    | (refine wpList_free_at 42 (by rfl) (by rfl) ?_; refine wpList_buildTo (by rfl) 25 #[(0, .const (.int .u64 256))] (by rfl) (some 42) (by rfl) (vals .u64 [256, 0, 0, 0]) (by kernel_rfl) ?_)
    | (have hq0 := hb8
       clear hq0
       go_at_call 26
       have hal := (Below.refl w8.heap.size w8).alloc (Nat.le_refl _) (.cells (vals .u8 [1, 0]) 5)
       refine (F1.out _ w8.heap.size (Has.new _ _ _)).mono ?_
       rintro e w9 ⟨rfl, hq⟩
       have hbe := hal.trans (hq.mono hal.size)
       have qm9 := qm8.keep hbe
       have qz9 := qz8.keep hbe
       have xd9 := rd_here xd8 hbe
       have hb9 := hb8.trans (hbe.mono (HSS.out _ hb8))
       have c0 := xd9.get0 (j := 0) (by omega)
       have c1 := xd9.get0 (j := 1) (by omega)
       simp only [nth, List.getD_cons_zero, List.getD_cons_succ] at c0 c1
       clear hal hq hbe hb8 qm8 qz8 xd8)
    | (refine wpList_free_at 36 (by rfl) (by rfl) ?_; refine wpList_buildTo (by rfl) 25 #[(0, .const (.int .u64 1))] (by rfl) (some 36) (by rfl) (vals .u64 [1, 0, 0, 0]) (by kernel_rfl) ?_)
    | (have hq0 := hb7
       clear hq0
       go_at_call 20
       refine (M1.out _).mono ?_
       rintro e w8 ⟨rfl, hq⟩
       have qm8 := qm7.keep hq
       have qz8 := qz7.keep hq
       have xd8 := rd_here xd7 hq
       have hb8 := hb7.trans (hq.mono (HSS.out _ hb7))
       clear hq hb7 qm7 qz7 xd7)
    | (refine wpList_free (by rfl) ?_; refine wpList_load_row rfl 25 (.tmp 1) rfl (w1.heap.size) rfl _ _ _ _ qm7.eq Try.underlying25 rfl (by rw [vals_size, Lm.out]; kernel_rfl) ?_)
    | (refine wpList_buildTo (by rfl) 25 #[(0, .const (.int .u64 1))] (by rfl) (some 30) (by rfl) (vals .u64 [1, 0, 0, 0]) (by kernel_rfl) ?_)
    | (have hq0 := hb6
       clear hq0
       go_at_call 16
       refine (A1.out _).mono ?_
       rintro e w7 ⟨rfl, hq⟩
       have qm7 := qm6.keep hq
       have qz7 := qz6.keep hq
       have xd7 := rd_here xd6 hq
       have hb7 := hb6.trans (hq.mono (HSS.out _ hb6))
       clear hq hb6 qm6 qz6 xd6)
    | (refine wpList_buildTo (by rfl) 25 #[(0, .const (.int .u64 2))] (by rfl) (some 28) (by rfl) (vals .u64 [2, 0, 0, 0]) (by kernel_rfl) ?_)
    | (refine wpList_load_row rfl 25 (.tmp 1) rfl (w1.heap.size) rfl _ _ _ _ qm6.eq Try.underlying25 rfl (by rw [vals_size, Lm.out]; kernel_rfl) ?_)
    | (refine store_abs2 (by rfl) 25 (.tmp 6) (.tmp 22) (by rfl) (by rfl) (w5.heap.size) (vals .u64 Z4) (by rfl) (by rfl) 25 (vals .u64 Z4) (Has.new' _ rfl _ _) (by rw [vals_size, LZ.out]; kernel_rfl) (by first | rfl | (rw [vals_size, vals_size, LZ.out]; rfl)) vals_one ?_
       intro w6 qz6 hkeep hbg
       have hbe := ((Below.refl (w5).heap.size (w5)).alloc (Nat.le_refl _) (.cells (vals .u64 Z4) 25)).trans hbg
       have Nmz : Keep (w1.heap.size < w5.heap.size) := ⟨qm5.lt⟩
       have Mz : Keep (S ≤ w5.heap.size) := ⟨HSS.out _ hb5⟩
       have qm6 := qm5.keep hbe
       have xd6 := rd_here xd5 hbe
       have hb6 := hb5.trans (hbe.mono (HSS.out _ hb5))
       clear hkeep hbg hbe hb5 qm5 xd5)
    | (have hq0 := hb4
       clear hq0
       go_at_call 24
       refine (B1.out _).mono ?_
       rintro e w5 ⟨rfl, hq⟩
       have qm5 := qm4.keep hq
       have xd5 := rd_here xd4 hq
       have hb5 := hb4.trans (hq.mono (HSS.out _ hb4))
       clear hq hb4 qm4 xd4)
    | (have hq0 := hb3
       clear hq0
       go_at_call 30
       have hal := (Below.refl w3.heap.size w3).alloc (Nat.le_refl _) (.cells (vals .u64 [5]) 23)
       refine (W2.out _ w3.heap.size (Has.new _ _ _)).mono ?_
       rintro e w4 ⟨rfl, hq⟩
       have hbe := hal.trans (hq.mono hal.size)
       have qm4 := qm3.keep hbe
       have xd4 := rd_here xd3 hbe
       have hb4 := hb3.trans (hbe.mono (HSS.out _ hb3))
       clear hal hq hbe hb3 qm3 xd3)
    | (have hq0 := hb2
       clear hq0
       go_at_call 30
       have hal := (Below.refl w2.heap.size w2).alloc (Nat.le_refl _) (.cells (vals .u64 [7]) 23)
       refine (W1.out _ w2.heap.size (Has.new _ _ _)).mono ?_
       rintro e w3 ⟨gd, cd, rfl, hrd, hq⟩
       have hbe := hal.trans (hq.mono hal.size)
       have qm3 := qm2.keep hbe
       have hb3 := hb2.trans (hbe.mono (HSS.out _ hb2))
       have xd3 := hrd
       clear hrd
       clear hal hq hbe hb2 qm2)
    | (refine store_abs2 (by rfl) 25 (.tmp 1) (.tmp 9) (by rfl) (by rfl) (w1.heap.size) (vals .u64 m) (by rfl) (by rfl) 25 (vals .u64 Z4) (Has.new' _ rfl _ _) (by rw [vals_size, Lm.out]; kernel_rfl) (by first | rfl | (rw [vals_size, vals_size, Lm.out]; rfl)) vals_one ?_
       intro w2 qm2 hkeep hbg
       have hbe := ((Below.refl (w1).heap.size (w1)).alloc (Nat.le_refl _) (.cells (vals .u64 Z4) 25)).trans hbg
       have Mm : Keep (S ≤ w1.heap.size) := ⟨HSS.out _ hb1⟩
       have hb2 := hb1.trans (hbe.mono (HSS.out _ hb1))
       clear hkeep hbg hbe hb1 )
    | (have hq0 := hb0
       clear hq0
       go_at_call 18
       refine (N1.out _).mono ?_
       rintro e w1 ⟨rfl, hq⟩
       have hb1 := hb0.trans (hq.mono (HSS.out _ hb0))
       clear hq hb0 )
    | (refine wpList_buildTo (by rfl) 25 #[(0, .const (.int .u64 1))] (by rfl) (some 8) (by rfl) (vals .u64 [1, 0, 0, 0]) (by kernel_rfl) ?_))
  go_ret
  exact ⟨rfl, hb9⟩

end Go.Proofs.Ythaoebamnlmfpaa.Fr
