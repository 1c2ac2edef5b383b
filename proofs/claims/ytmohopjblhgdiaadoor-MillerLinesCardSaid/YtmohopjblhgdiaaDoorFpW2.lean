/-
  Own text. The package-level variables of package fp and of math/bits, as they lie when the call begins; a word that is stored; takeOnce of package fp.
-/
import Derived.Test.YtmohopjblhgdiaaDoorFpW1
namespace Go.Proofs.YtmohopjblhgdiaaDoor.Fp
set_option linter.unusedVariables false
open Go Go.RowKit Go.Proofs.YtmohopjblhgdiaaDoor.Reg Go.Proofs.YtmohopjblhgdiaaDoor.Base Go.Proofs.YtmohopjblhgdiaaDoor.Limb Go.Proofs.YtmohopjblhgdiaaDoor.Bits

/-- What 2^384, 2^448 .. leave modulo p, and the places of a single bit. -/
def rL : List Int := [8505329371266088957, 17002214543764226050, 6865905132761471162, 8632934651105793861, 6631298214892334189, 1582556514881692819, 4807590280750076774, 8612159356199394243, 12878354973820563945, 2337167537087690866, 6431483094484234427, 293241525500371865, 10843886736844221597, 4986109583520628558, 9383303180058691654, 1580741160401819599, 18066133864166594236, 201357114324440772, 11396969636769438951, 14906441553275738803, 11575976719427520033, 16041729168491046160, 17227550989889470529, 1634297007776406087, 530084278580445711, 4523507806283684619, 1624132434792508366, 9756551939738585554, 1581692023382530096, 1123129913263140485, 18197539513313378263, 5220802458584164551, 14995588168058310184, 2582428486095855617, 11648352368840172979, 145533648938993496]
/-- The package-level variables hold what the program lays there. -/
structure Glob (w : World) : Prop where
  p : ∃ t, Has w 0 t (vals .u64 pL)
  r : ∃ t, Has w 1 t (vals .u64 rL)
/-- No variable's block. -/
structure Free (g : Nat) : Prop where
  p : g ≠ 0
  r : g ≠ 1
section
variable {w w' : World} {g : Nat}
theorem Glob.keep (h : Glob w) (hb : Below w.heap.size w w') : Glob w' :=
  ⟨h.p.imp fun _ h => h.keep hb, h.r.imp fun _ h => h.keep hb⟩
theorem Glob.only (h : Glob w) (hb : Only g w w') (hf : Free g) : Glob w' :=
  ⟨h.p.imp fun _ h => hb.has h hf.p.symm, h.r.imp fun _ h => hb.has h hf.r.symm⟩
theorem Glob.free (h : Glob w) (hg : w.heap.size ≤ g) : Free g := by
  obtain ⟨_, hp⟩ := h.p
  obtain ⟨_, hr⟩ := h.r
  have := hp.lt
  have := hr.lt
  exact ⟨by omega, by omega⟩
theorem only_row (g : Nat) (w : World) (cs : Array Value) : Only g w (w.setRow g cs) :=
  ⟨rfl, rfl, rfl, by simp, fun k _ hne => setRow_other w g k cs hne⟩
theorem only_drew (h : Only g w w') : Only g w w'.drew := ⟨h.os, h.tape, h.output, h.size, h.block⟩
end

theorem wpList_of_yields {P : Program} {ops : Array Oper} {Q : Exit → Act → World → Prop} {o : Oper} {rest : List Oper} {v : Value} {a : Act} {w : World} (hy : Yields P ops o v a) (h : wpList P ops Q rest (a.put o.dst v) w) : wpList P ops Q (o :: rest) a w := by
  unfold wpList
  rcases hy with ⟨hw, hv⟩ | ⟨hw, rfl⟩
  · rw [if_pos hw]
    refine .inl ?_
    unfold Oper.wp
    rw [hv w]
    exact h
  · rw [if_neg (by rw [hw]; simp)]
    exact h
/-- A word stored into a block that is known whole; the world behind it is a variable. -/
theorem store_word {P : Program} {w : World} {ops : Array Oper} {rest : List Oper} {o : Oper} {a : Act} {Q : Exit → Act → World → Prop} (hgd : o.guard = none) (ty : TypeId) (x y : Operand) (ho : o.op = .store ty x y)
    (hd : o.dst = none) (g i : Nat) (hx : a.eval x = .pointer (some ⟨g, i, none⟩)) (k : IntKind) (v : Int) (hy : a.eval y = .int k v) (hty : (P.info? ty).map (·.size) = some 1)
    (t : TypeId) (xs : List Int) (hg : Has w g t (vals k xs)) (hi : i < xs.length) (ys : List Int) (hys : xs.set i v = ys)
    (h : ∀ w', Has w' g t (vals k ys) → Only g w w' → wpList P ops Q rest a w') : wpList P ops Q (o :: rest) a w := by
  refine wpList_plain hgd fun K hK => ?_
  have hst := run_storeCells_at P g i t [Value.int k v] 0 (vals k xs) w hg.eq (by rw [vals_size]; simp; omega) (fun u hu => by
    obtain rfl : u = Value.int k v := by simpa using hu
    rfl)
  have hcells : ((vals k xs).toList.take (i + 0) ++ [Value.int k v] ++ (vals k xs).toList.drop (i + 0 + [Value.int k v].length)).toArray = vals k ys := by
    subst hys
    simp only [vals, Nat.add_zero, List.length_singleton, List.map_set]
    congr 1
    rw [List.set_eq_take_append_cons_drop, if_pos (by simpa using hi), List.append_assoc]
    rfl
  rw [hcells] at hst
  cases hq : P.info? ty with
  | none => simp [hq] at hty
  | some inf =>
    have hs : inf.size = 1 := by simpa [hq] using hty
    have hrun : (storeVar ty ⟨g, i, none⟩ (.int k v)).run P w = .ok () (w.setRow g (vals k ys)) := by
      simp [storeVar, sizeOf, typeInfo, hq, Value.cells, hs, hst]
    unfold Oper.wp execOp
    simp only [ho, hx, hy, Instr.storeAt, Instr.sureAddr, Sem.run_bind, Sem.run_pure, Result.andThen_ok, hrun]
    refine hK _ _ ?_
    rw [hd]
    exact h _ (hg.row _) (only_row g w _)

set_option maxRecDepth 100000 in
set_option maxHeartbeats 4000000 in
theorem takeOnce_c (g : Nat) (t : TypeId) (a r : List Int) (hla : a.length = 6) (hwa : Words a) (hf : Free g) (w : World) (hG : Glob w) (hA0 : Has w g t (vals .u64 (a ++ r))) :
    Calls Tryd.prog 54 #[.pointer (some ⟨g, 0, none⟩)] w fun e w' => e = .returned (.tuple #[]) ∧ ∃ o : List Int, Has w' g t (vals .u64 (o ++ r)) ∧ o.length = 6 ∧ Words o ∧ num o = (if num a < PP then num a else num a - PP) ∧ Only g w w' := by
  obtain ⟨x0, x1, x2, x3, x4, x5, rfl⟩ := six_of hla
  obtain ⟨bx0, bx1, bx2, bx3, bx4, bx5⟩ := words6 hwa
  have WA : Keep _ := ⟨hwa⟩
  obtain ⟨tp, hP0⟩ := hG.p
  have hb0 : Below w.heap.size w w := Below.refl _ _
  clear hla hwa hG
  obtain ⟨s0, d0, run0, E0, B0, D0⟩ := subc_told x0 13402431016077863595 0 bx0 ⟨by omega, by omega⟩ ⟨by omega, by omega⟩
  obtain ⟨s1, d1, run1, E1, B1, D1⟩ := subc_told x1 2210141511517208575 d0 bx1 ⟨by omega, by omega⟩ D0
  obtain ⟨s2, d2, run2, E2, B2, D2⟩ := subc_told x2 7435674573564081700 d1 bx2 ⟨by omega, by omega⟩ D1
  obtain ⟨s3, d3, run3, E3, B3, D3⟩ := subc_told x3 7239337960414712511 d2 bx3 ⟨by omega, by omega⟩ D2
  obtain ⟨s4, d4, run4, E4, B4, D4⟩ := subc_told x4 5412103778470702295 d3 bx4 ⟨by omega, by omega⟩ D3
  obtain ⟨s5, d5, run5, E5, B5, D5⟩ := subc_told x5 1873798617647539866 d4 bx5 ⟨by omega, by omega⟩ D4
  have hd : (num [x0, x1, x2, x3, x4, x5] < PP → d5 = 1) ∧ (PP ≤ num [x0, x1, x2, x3, x4, x5] → d5 = 0 ∧ num [s0, s1, s2, s3, s4, s5] = num [x0, x1, x2, x3, x4, x5] - PP) := by
    have h0 := E0.out
    have h1 := E1.out
    have h2 := E2.out
    have h3 := E3.out
    have h4 := E4.out
    have h5 := E5.out
    have g0 := B0.out
    have g1 := B1.out
    have g2 := B2.out
    have g3 := B3.out
    have g4 := B4.out
    have g5 := B5.out
    have e : num [s0, s1, s2, s3, s4, s5] - wp 6 * d5 = num [x0, x1, x2, x3, x4, x5] - PP := by
      rw [num_of6, num_of6, wp_six, PP]
      omega
    have n1 := num6 (words6_of g0 g1 g2 g3 g4 g5) rfl
    have n2 := num6 WA.out rfl
    have hp := PP_lt
    rw [wp_six] at e n1 n2 hp
    generalize num [s0, s1, s2, s3, s4, s5] = S at *
    generalize num [x0, x1, x2, x3, x4, x5] = X at *
    clear h0 h1 h2 h3 h4 h5 g0 g1 g2 g3 g4 g5
    constructor <;> intro h <;> omega
  have HD : Keep _ := ⟨hd⟩
  have BB : Keep _ := ⟨words6_of B0.out B1.out B2.out B3.out B4.out B5.out⟩
  clear hd bx0 bx1 bx2 bx3 bx4 bx5 E0 E1 E2 E3 E4 E5 B0 B1 B2 B3 B4 B5 D0 D1 D2 D3 D4
  obtain ⟨N, hN⟩ : ∃ N, (if num [x0, x1, x2, x3, x4, x5] < PP then num [x0, x1, x2, x3, x4, x5] else num [x0, x1, x2, x3, x4, x5] - PP) = N := ⟨_, rfl⟩
  rw [hN]
  have HNN : Keep _ := ⟨hN⟩
  clear hN
  have HF : Keep _ := ⟨hf⟩
  clear hf
  go_enter Tryd.func54, Tryd.ntmps54
  go_wp2
  refine wp_fam_all (by kernel_rfl) (by kernel_rfl) (fun I hI' fw hf hback => ?_)
  have ca : ∀ j, (fw j).cell? ⟨g, 0, none⟩ = some (.int .u64 x0) := fun j => (hA0.keep (hf j)).val (i := 0) (by simp <;> omega)
  have cp : ∀ j, (fw j).cell? ⟨0, 0, none⟩ = some (.int .u64 13402431016077863595) := fun j => (hP0.keep (hf j)).val (i := 0) (by decide)
  repeat (go_big_quiet_step (fail))
  refine wpQuiet_nil ?_
  intro w1 hq
  have hA1 := hA0.keep hq
  have hP1 := hP0.keep hq
  have hb1 := hb0.trans (hq.mono hb0.size)
  clear ca cp hf hback run0 hq hA0 hP0 hb0
  go_wp2
  refine wp_fam_all (by kernel_rfl) (by kernel_rfl) (fun I hI' fw hf hback => ?_)
  have ca : ∀ j, (fw j).cell? ⟨g, 1, none⟩ = some (.int .u64 x1) := fun j => (hA1.keep (hf j)).val (i := 1) (by simp <;> omega)
  have cp : ∀ j, (fw j).cell? ⟨0, 1, none⟩ = some (.int .u64 2210141511517208575) := fun j => (hP1.keep (hf j)).val (i := 1) (by decide)
  repeat (go_big_quiet_step (fail))
  refine wpQuiet_nil ?_
  intro w2 hq
  have hA2 := hA1.keep hq
  have hP2 := hP1.keep hq
  have hb2 := hb1.trans (hq.mono hb1.size)
  clear ca cp hf hback run1 hq hA1 hP1 hb1
  go_wp2
  refine wp_fam_all (by kernel_rfl) (by kernel_rfl) (fun I hI' fw hf hback => ?_)
  have ca : ∀ j, (fw j).cell? ⟨g, 2, none⟩ = some (.int .u64 x2) := fun j => (hA2.keep (hf j)).val (i := 2) (by simp <;> omega)
  have cp : ∀ j, (fw j).cell? ⟨0, 2, none⟩ = some (.int .u64 7435674573564081700) := fun j => (hP2.keep (hf j)).val (i := 2) (by decide)
  repeat (go_big_quiet_step (fail))
  refine wpQuiet_nil ?_
  intro w3 hq
  have hA3 := hA2.keep hq
  have hP3 := hP2.keep hq
  have hb3 := hb2.trans (hq.mono hb2.size)
  clear ca cp hf hback run2 hq hA2 hP2 hb2
  go_wp2
  refine wp_fam_all (by kernel_rfl) (by kernel_rfl) (fun I hI' fw hf hback => ?_)
  have ca : ∀ j, (fw j).cell? ⟨g, 3, none⟩ = some (.int .u64 x3) := fun j => (hA3.keep (hf j)).val (i := 3) (by simp <;> omega)
  have cp : ∀ j, (fw j).cell? ⟨0, 3, none⟩ = some (.int .u64 7239337960414712511) := fun j => (hP3.keep (hf j)).val (i := 3) (by decide)
  repeat (go_big_quiet_step (fail))
  refine wpQuiet_nil ?_
  intro w4 hq
  have hA4 := hA3.keep hq
  have hP4 := hP3.keep hq
  have hb4 := hb3.trans (hq.mono hb3.size)
  clear ca cp hf hback run3 hq hA3 hP3 hb3
  go_wp2
  refine wp_fam_all (by kernel_rfl) (by kernel_rfl) (fun I hI' fw hf hback => ?_)
  have ca : ∀ j, (fw j).cell? ⟨g, 4, none⟩ = some (.int .u64 x4) := fun j => (hA4.keep (hf j)).val (i := 4) (by simp <;> omega)
  have cp : ∀ j, (fw j).cell? ⟨0, 4, none⟩ = some (.int .u64 5412103778470702295) := fun j => (hP4.keep (hf j)).val (i := 4) (by decide)
  repeat (go_big_quiet_step (fail))
  refine wpQuiet_nil ?_
  intro w5 hq
  have hA5 := hA4.keep hq
  have hP5 := hP4.keep hq
  have hb5 := hb4.trans (hq.mono hb4.size)
  clear ca cp hf hback run4 hq hA4 hP4 hb4
  go_wp2
  refine wp_fam_all (by kernel_rfl) (by kernel_rfl) (fun I hI' fw hf hback => ?_)
  have ca : ∀ j, (fw j).cell? ⟨g, 5, none⟩ = some (.int .u64 x5) := fun j => (hA5.keep (hf j)).val (i := 5) (by simp <;> omega)
  have cp : ∀ j, (fw j).cell? ⟨0, 5, none⟩ = some (.int .u64 1873798617647539866) := fun j => (hP5.keep (hf j)).val (i := 5) (by decide)
  repeat (go_big_quiet_step (fail))
  refine wpQuiet_nil ?_
  intro w6 hq
  have hA6 := hA5.keep hq
  have hP6 := hP5.keep hq
  have hb6 := hb5.trans (hq.mono hb5.size)
  clear ca cp hf hback run5 hq hA5 hP5 hb5
  have hcase : d5 = 0 ∨ d5 = 1 := by omega
  clear D5
  rcases hcase with rfl | rfl
  · have hge : PP ≤ num [x0, x1, x2, x3, x4, x5] := by
      rcases Int.lt_or_le (num [x0, x1, x2, x3, x4, x5]) PP with h | h
      · have := HD.out.1 h; omega
      · exact h
    have HN : Keep _ := ⟨(HD.out.2 hge).2⟩
    have HGE : Keep _ := ⟨hge⟩
    clear hge
    have hO0 : Only g w w6.drew := only_drew (Only.of_below hb6 g)
    have hA6' := hA6.drew
    clear hb6 hP6 hA6
    have hA6 := hA6'
    clear hA6'
    go_wp2
    refine wp_front [0, 1, 2, 3, 4, 5, 6, 7, 8, 9, 10, 11, 12, 15, 18, 21, 24, 27] [13, 14, 16, 17, 19, 20, 22, 23, 25, 26, 28, 29] (by kernel_rfl) (by rfl) (by kernel_rfl) (by kernel_rfl) (fun _ _ d _ _ h => by cases d <;> exact h) ?_
    simp only [List.filterMap_cons, List.filterMap_nil, List.getElem?_cons_zero, List.getElem?_cons_succ]
    repeat (refine ⟨_, Or.inl ⟨by rfl, fun w => (by go_simp; with_reducible rfl)⟩, ?_⟩
            simp only [Act.put, List.setIfInBounds_toArray, List.set_cons_zero, List.set_cons_succ])
    change wpList _ _ _ _ _ _
    have e3 : (Tryd.prog.info? 22).map (·.size) = some 1 := by kernel_rfl
    have l0 : 0 < ([x0, x1, x2, x3, x4, x5] ++ r).length := by simp <;> omega
    have u0 : ([x0, x1, x2, x3, x4, x5] ++ r).set 0 s0 = [s0, x1, x2, x3, x4, x5] ++ r := by rfl
    have LU0 : Keep _ := ⟨And.intro l0 u0⟩
    clear l0 u0
    have l1 : 1 < ([s0, x1, x2, x3, x4, x5] ++ r).length := by simp <;> omega
    have u1 : ([s0, x1, x2, x3, x4, x5] ++ r).set 1 s1 = [s0, s1, x2, x3, x4, x5] ++ r := by rfl
    have LU1 : Keep _ := ⟨And.intro l1 u1⟩
    clear l1 u1
    have l2 : 2 < ([s0, s1, x2, x3, x4, x5] ++ r).length := by simp <;> omega
    have u2 : ([s0, s1, x2, x3, x4, x5] ++ r).set 2 s2 = [s0, s1, s2, x3, x4, x5] ++ r := by rfl
    have LU2 : Keep _ := ⟨And.intro l2 u2⟩
    clear l2 u2
    have l3 : 3 < ([s0, s1, s2, x3, x4, x5] ++ r).length := by simp <;> omega
    have u3 : ([s0, s1, s2, x3, x4, x5] ++ r).set 3 s3 = [s0, s1, s2, s3, x4, x5] ++ r := by rfl
    have LU3 : Keep _ := ⟨And.intro l3 u3⟩
    clear l3 u3
    have l4 : 4 < ([s0, s1, s2, s3, x4, x5] ++ r).length := by simp <;> omega
    have u4 : ([s0, s1, s2, s3, x4, x5] ++ r).set 4 s4 = [s0, s1, s2, s3, s4, x5] ++ r := by rfl
    have LU4 : Keep _ := ⟨And.intro l4 u4⟩
    clear l4 u4
    have l5 : 5 < ([s0, s1, s2, s3, s4, x5] ++ r).length := by simp <;> omega
    have u5 : ([s0, s1, s2, s3, s4, x5] ++ r).set 5 s5 = [s0, s1, s2, s3, s4, s5] ++ r := by rfl
    have LU5 : Keep _ := ⟨And.intro l5 u5⟩
    clear l5 u5
    have E3 : Keep _ := ⟨e3⟩
    clear e3
    refine wpList_of_yields (Or.inl ⟨by rfl, fun w => (by go_simp; with_reducible rfl)⟩) ?_
    simp only [Act.put, List.setIfInBounds_toArray, List.set_cons_zero, List.set_cons_succ]
    refine store_word (by rfl) 22 (.tmp 89) (.tmp 82) (by rfl) (by rfl) g 0 (by rfl) .u64 s0 (by rfl) E3.out t _ hA6 LU0.out.1 _ LU0.out.2 (fun v1 hA7 ho => ?_)
    have hO1 := hO0.trans ho
    clear ho hO0 hA6
    refine wpList_of_yields (Or.inl ⟨by rfl, fun w => (by go_simp; with_reducible rfl)⟩) ?_
    simp only [Act.put, List.setIfInBounds_toArray, List.set_cons_zero, List.set_cons_succ]
    refine store_word (by rfl) 22 (.tmp 91) (.tmp 83) (by rfl) (by rfl) g 1 (by rfl) .u64 s1 (by rfl) E3.out t _ hA7 LU1.out.1 _ LU1.out.2 (fun v2 hA8 ho => ?_)
    have hO2 := hO1.trans ho
    clear ho hO1 hA7
    refine wpList_of_yields (Or.inl ⟨by rfl, fun w => (by go_simp; with_reducible rfl)⟩) ?_
    simp only [Act.put, List.setIfInBounds_toArray, List.set_cons_zero, List.set_cons_succ]
    refine store_word (by rfl) 22 (.tmp 93) (.tmp 84) (by rfl) (by rfl) g 2 (by rfl) .u64 s2 (by rfl) E3.out t _ hA8 LU2.out.1 _ LU2.out.2 (fun v3 hA9 ho => ?_)
    have hO3 := hO2.trans ho
    clear ho hO2 hA8
    refine wpList_of_yields (Or.inl ⟨by rfl, fun w => (by go_simp; with_reducible rfl)⟩) ?_
    simp only [Act.put, List.setIfInBounds_toArray, List.set_cons_zero, List.set_cons_succ]
    refine store_word (by rfl) 22 (.tmp 95) (.tmp 85) (by rfl) (by rfl) g 3 (by rfl) .u64 s3 (by rfl) E3.out t _ hA9 LU3.out.1 _ LU3.out.2 (fun v4 hA10 ho => ?_)
    have hO4 := hO3.trans ho
    clear ho hO3 hA9
    refine wpList_of_yields (Or.inl ⟨by rfl, fun w => (by go_simp; with_reducible rfl)⟩) ?_
    simp only [Act.put, List.setIfInBounds_toArray, List.set_cons_zero, List.set_cons_succ]
    refine store_word (by rfl) 22 (.tmp 97) (.tmp 86) (by rfl) (by rfl) g 4 (by rfl) .u64 s4 (by rfl) E3.out t _ hA10 LU4.out.1 _ LU4.out.2 (fun v5 hA11 ho => ?_)
    have hO5 := hO4.trans ho
    clear ho hO4 hA10
    refine wpList_of_yields (Or.inl ⟨by rfl, fun w => (by go_simp; with_reducible rfl)⟩) ?_
    simp only [Act.put, List.setIfInBounds_toArray, List.set_cons_zero, List.set_cons_succ]
    refine store_word (by rfl) 22 (.tmp 99) (.tmp 87) (by rfl) (by rfl) g 5 (by rfl) .u64 s5 (by rfl) E3.out t _ hA11 LU5.out.1 _ LU5.out.2 (fun v6 hA12 ho => ?_)
    have hO6 := hO5.trans ho
    clear ho hO5 hA11
    go_wp2
    go_end0
    exact ⟨rfl, [s0, s1, s2, s3, s4, s5], hA12, rfl, BB.out, by rw [← HNN.out, if_neg (Int.not_lt.2 HGE.out)]; exact HN.out, hO6⟩
  · have hlt : num [x0, x1, x2, x3, x4, x5] < PP := by
      rcases Int.lt_or_le (num [x0, x1, x2, x3, x4, x5]) PP with h | h
      · exact h
      · have := (HD.out.2 h).1; omega
    have HLT : Keep _ := ⟨hlt⟩
    clear hlt
    go_wp2
    go_end0
    exact ⟨rfl, [x0, x1, x2, x3, x4, x5], hA6, rfl, WA.out, by rw [← HNN.out, if_pos HLT.out], Only.of_below hb6 g⟩
end Go.Proofs.YtmohopjblhgdiaaDoor.Fp
