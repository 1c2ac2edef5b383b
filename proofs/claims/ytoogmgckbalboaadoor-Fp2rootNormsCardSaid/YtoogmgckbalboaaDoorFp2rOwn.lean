/-
  Own text. The contracts of layer 8's landed package.
-/
import Derived.Test.YtoogmgckbalboaaDoorFp2rOwn0
import Derived.Test.YtoogmgckbalboaaDoorFp2rRef
import Derived.Test.YtoogmgckbalboaaDoorFp2OwnI
import Derived.Test.YtoogmgckbalboaaDoorMW
namespace Go.Proofs.YtoogmgckbalboaaDoor.Fp2r
set_option linter.unusedVariables false
set_option linter.unusedSimpArgs false
open Go Go.RowKit Go.Proofs.YtoogmgckbalboaaDoor.Reg Go.Proofs.YtoogmgckbalboaaDoor.Base Go.Proofs.YtoogmgckbalboaaDoor.Limb Go.Proofs.YtoogmgckbalboaaDoor.Fp Go.Proofs.YtoogmgckbalboaaDoor.Fpr Go.Proofs.YtoogmgckbalboaaDoor.Fp2 Go.Proofs.YtoogmgckbalboaaDoor.Bits

theorem rwd_nm (x : Int) : Nm 6 (rwd x) := by
  unfold rwd
  split
  · rw [root, ev]
    split <;> exact .fe _
  · exact nm_Z6
theorem fe_rwd (x : Int) : Fp.fe (num (rwd x)) = rwd x := by
  unfold rwd
  split
  · rw [root, ev]
    split <;> exact fe_num _
  · decide +kernel
theorem rwd_fe (x : Int) : rwd (num (Fp.fe x)) = rwd x := by rw [rwd, rwd, sq_fe, root_fe]
section
variable {x : List Int}
theorem pSqrt (h : Nm 6 x) (w : World) (hG : Glob w) : Calls Tryd.prog 24 #[.agg (vals .u64 x)] w fun e w' => e = .returned (.tuple #[.agg (vals .u64 (rwd (num x))), .bool (sq (num x))]) ∧ Below w.heap.size w w' := sqrt_c x h.len h.words w hG
end
theorem norm_v (a : List Int) : Fp.fe (num (Fp.fe (num (seg 0 6 a) * num (seg 0 6 a))) + num (Fp.fe (num (seg 6 6 a) * num (seg 6 6 a)))) = Fp.fe (gnorm (v2 a)) := by
  rw [fe_addl, fe_addr]
  rfl
theorem other_v (x b : List Int) : Fp.fe (num (Fp.fe (hv (num b))) * num (Fp.fe (pw (num x) (PP - 2)))) = Fp.fe (hv (num b) * iv (num x)) := by rw [fe_mull, fe_mulr]; rfl
theorem rh_yes {x b : List Int} (h : sq (num x) = true) : rwd (num x) ++ Fp.fe (hv (num b) * iv (num (rwd (num x)))) = F2 (rh (num x) (num b)) := by
  rw [rh, if_pos h, F2]
  show _ = Fp.fe (num (rwd (num x))) ++ _
  rw [fe_rwd]
  rfl
theorem rh_no {x b : List Int} (h : sq (num x) = false) : Fp.fe (hv (num b) * iv (num (rwd (-num x)))) ++ rwd (-num x) = F2 (rh (num x) (num b)) := by
  rw [rh, if_neg (by rw [h]; decide), F2]
  show _ = _ ++ Fp.fe (num (rwd (-num x)))
  rw [fe_rwd]
  rfl
theorem built22 (parts : List (Nat × Value)) : Tryd.prog.built 43 parts = Instr.fill (fun i => some (i * 6, 6)) (vals .u64 (List.replicate (6 + 6) 0)) parts := by kernel_rfl
theorem build22 {x y : List Int} (h : Nm 6 x) (h' : Nm 6 y) : Tryd.prog.built 43 [(0, .agg (vals .u64 x)), (1, .agg (vals .u64 y))] = some (vals .u64 (x ++ y)) := by
  have hx := h.len
  have hy := h'.len
  rw [built22, fill_part (off := 0) (n := 6) rfl hx (by simp), fill_part (off := 6) (n := 6) rfl hy (by simp [hx])]
  simp only [Instr.fill, List.take_zero, List.nil_append, Nat.zero_add]
  rw [List.take_left' hx, List.drop_eq_nil_of_le (by simp [hx]), List.append_nil]
theorem index22 {x y : List Int} (h : Nm 6 x) (h' : Nm 6 y) (w : World) : (Instr.index 43 (.agg (vals .u64 (x ++ y))) (.int .i64 0)).run Tryd.prog w = .ok (.agg (vals .u64 x)) w ∧ (Instr.index 43 (.agg (vals .u64 (x ++ y))) (.int .i64 1)).run Tryd.prog w = .ok (.agg (vals .u64 y)) w := by
  have hx := h.len
  have hy := h'.len
  have e0 : seg 0 6 (x ++ y) = x := List.take_left' hx
  have e1 : seg 6 6 (x ++ y) = y := by
    rw [seg, List.drop_left' hx, List.take_of_length_le (by omega)]
  have p0 := part_seg (w := w) (off := 0) (n := 6) (xs := x ++ y) Tryd.underlying24 rfl (by kernel_rfl)
  have p1 := part_seg (w := w) (off := 6) (n := 6) (xs := x ++ y) Tryd.underlying24 rfl (by kernel_rfl)
  rw [e0] at p0
  rw [e1] at p1
  cases hq : Tryd.prog.info? 24 with
  | none =>
    have : (Tryd.prog.info? 24).map (·.size) = some 6 := by kernel_rfl
    rw [hq] at this
    cases this
  | some inf =>
    have hs : inf.size = 6 := by
      have : (Tryd.prog.info? 24).map (·.size) = some 6 := by kernel_rfl
      rw [hq] at this
      exact Option.some.inj this
    constructor
    · simp [Instr.index, asIntOf, run_underlying Tryd.underlying43, sizeOf, typeInfo, hq, hs, p0]
    · simp [Instr.index, asIntOf, run_underlying Tryd.underlying43, sizeOf, typeInfo, hq, hs, p1]
/-- The last but some operation stores a whole value into an old block; others follow. -/
theorem tail_store_more {P : Program} {ops : Array Oper} {md : Region.Mode} {Q : Exit → Act → World → Prop} {i f : Nat} {o : Oper} {L : Array Bool} {a : Act} {w : World} (hi : ops[i]? = some o) (hr : Region.ready md ops L = [i]) (hgd : o.guard = none) (ty : TypeId) (x y : Operand) (ho : o.op = .store ty x y)
    (hd : o.dst = none) (g : Nat) (cells : Array Value) (hx : a.eval x = .pointer (some ⟨g, 0, none⟩)) (hy : a.eval y = .agg cells)
    (t : TypeId) (old : Array Value) (hg : Has w g t old) (hinf : (P.info? ty).map (·.size) = some cells.size) (hold : old.size = cells.size) (h1 : cells.all (·.oneCell') = true)
    (h : ∀ w', Has w' g t cells → But g w w' → wpAnyU P md ops Q (But g w) f (L.setIfInBounds i true) a w') : wpAnyU P md ops Q (But g w) (f + 1) L a w.drew := by
  refine wpAnyU_run hi hr (fun w1 hq => ?_)
  have hg1 : Has w1 g t old := hg.drew.keep hq
  have hb1 : But g w w1 := (But.of (w := w) (w' := w.drew) ⟨rfl, rfl, rfl, Nat.le_refl _, fun _ _ => rfl⟩ g).then hq
  refine wpList_store_rowTo hgd ty x y ho hd g cells hx hy t old hg1.eq hinf hold h1 ?_
  have hb2 : But g w (w1.setRow g cells) := ⟨hb1.os, hb1.tape, hb1.output, by simpa using hb1.size, fun k hk hne => (setRow_other w1 g k cells hne).trans (hb1.block k hk hne)⟩
  exact ⟨hb2, h _ (hg1.row cells) hb2⟩

set_option maxRecDepth 100000 in
set_option maxHeartbeats 4000000 in
theorem lNorm (a : List Int) (ha : Nm 12 a) (w : World) (hG : Glob w) : Calls Tryd.prog 25 #[.agg (vals .u64 a)] w fun e w' => e = .returned (.agg (vals .u64 (Fp.fe (gnorm (v2 a))))) ∧ Below w.heap.size w w' := by
  obtain ⟨S, hS⟩ : ∃ S, w.heap.size = S := ⟨_, rfl⟩
  have Lo : Keep (Z6.length = 6) := ⟨rfl⟩
  have qa0 : Has ((w.alloc (.cells (vals .u64 a) 26)).alloc (.cells (vals .u64 Z6) 24)) (S) 26 (vals .u64 a) := ((Has.new' _ hS.symm _ _).alloc _)
  have qo0 : Has ((w.alloc (.cells (vals .u64 a) 26)).alloc (.cells (vals .u64 Z6) 24)) (S + 1) 24 (vals .u64 Z6) := (Has.new' _ (by simp only [World.size_alloc, hS]) _ _)
  have hb0 : Below S w ((w.alloc (.cells (vals .u64 a) 26)).alloc (.cells (vals .u64 Z6) 24)) := by rw [← hS]; exact (((Below.refl _ _).alloc (Nat.le_refl _) _).alloc (by simp <;> omega) _)
  have hsz0 : ((w.alloc (.cells (vals .u64 a) 26)).alloc (.cells (vals .u64 Z6) 24)).heap.size = S + 2 := by simp only [World.size_alloc, hS]
  have HSS : Keep (∀ x : World, Below S w x → S ≤ x.heap.size) := ⟨fun x hb => Nat.le_trans (by omega) hb.size⟩
  have HG : Keep (∀ x : World, Below S w x → Glob x) := ⟨fun x hb => hG.keep (by rw [hS]; exact hb)⟩
  clear hG
  rw [hS]
  go_enter Tryd.func25, Tryd.ntmps25
  go_wp2
  change Code.wp _ _ _ _ (((w.alloc (.cells (vals .u64 a) 26)).alloc (.cells (vals .u64 Z6) 24)))
  obtain ⟨w0, hw0⟩ : ∃ w9 : World, ((w.alloc (.cells (vals .u64 a) 26)).alloc (.cells (vals .u64 Z6) 24)) = w9 := ⟨_, rfl⟩
  rw [hw0] at hb0 hsz0 qa0 qo0 ⊢
  clear hw0
  refine wp_reads 11 1 (S + 1) (by kernel_rfl) (by kernel_rfl) (by rfl) (by kernel_rfl) (fun _ _ d _ _ h => by cases d <;> exact h) ?_
  simp only [List.take_succ_cons, List.take_zero]
  repeat ((first
    | refine take_load (by rfl) 24 (by rfl) (g := S) (n := 6) (by rfl) (t := 26) (xs := a) (fun w hw => hw.has qa0 (by omega)) Tryd.underlying24 rfl (by kernel_rfl) (by rw [ha.len]; decide) ?_
    | refine take_loadw (by rfl) 26 (by rfl) (g := S) (n := 12) (by rfl) (t := 26) (xs := a) (fun w hw => hw.has qa0 (by omega)) Tryd.underlying26 rfl (by kernel_rfl) ha.len ?_
    | refine wpTake_cons (.inl ⟨by rfl, fun w hw => (by unfold Oper.quietAt; go_simp; (first | with_reducible refine pRed ?_ _ (HG.out _ (hb0.trans (hw.below (by first | omega | exact HSS.out _ hb0) (HSS.out _ hb0)))) | with_reducible refine pAdd ?_ ?_ _ (HG.out _ (hb0.trans (hw.below (by first | omega | exact HSS.out _ hb0) (HSS.out _ hb0)))) | with_reducible refine pSub ?_ ?_ _ (HG.out _ (hb0.trans (hw.below (by first | omega | exact HSS.out _ hb0) (HSS.out _ hb0)))) | with_reducible refine pMul ?_ ?_ _ (HG.out _ (hb0.trans (hw.below (by first | omega | exact HSS.out _ hb0) (HSS.out _ hb0)))) | with_reducible refine pNeg ?_ _ (HG.out _ (hb0.trans (hw.below (by first | omega | exact HSS.out _ hb0) (HSS.out _ hb0))))) <;> (with_reducible first | exact Nm.fe _ | exact Nm.F2 _ | assumption | exact nm_one | exact nm_Z6 | (refine Nm.seg (m := 12) ?_ (by decide); assumption) | exact Nm.seg (m := 12) (Nm.F2 _) (by decide) | exact Nm.app2 (.fe _) (.fe _) | fail))⟩) ?_
    | refine wpTake_cons (Steady.of_yields (Or.inl ⟨by rfl, fun w => (by first | (go_simp; done) | (go_simp; with_reducible rfl))⟩)) ?_); simp only [List.getElem_toArray, List.getElem_cons_zero, List.getElem_cons_succ, Act.put, List.setIfInBounds_toArray, List.set_cons_zero, List.set_cons_succ])
  refine wpTake_nil ?_
  refine tail_store (i := 11) (by rfl) (by kernel_rfl) (by kernel_rfl) (by rfl) 24 (.tmp 2) (.tmp 13) (by rfl) (by rfl) (S + 1) _ (by rfl) (by rfl) 24 _ qo0 (by rw [vals_size, (Nm.fe _).len]; kernel_rfl) (by rw [vals_size, vals_size, (Nm.fe _).len]; rfl) vals_one ?_
  intro w1 qo1 hbt
  have qa1 := hbt.has qa0 (by omega)
  have hb1 := hb0.trans (hbt.below (by omega) (HSS.out _ hb0))
  clear hbt hb0 qa0 qo0
  go_wp2
  refine bodyPost_ret (v := .agg (vals .u64 _)) (results_cell_row rfl _ _ (S + 1) _ _ _ _ rfl qo1.eq Tryd.underlying24 rfl (by rw [vals_size, (Nm.fe _).len]; kernel_rfl)) rfl ⟨ret_eq (congrArg (fun z => Value.agg (vals .u64 z)) (norm_v a)), hb1⟩

set_option maxRecDepth 100000 in
set_option maxHeartbeats 4000000 in
theorem gIs (a : List Int) (ha : Nm 12 a) (w : World) (hG : Glob w) : Calls Tryd.prog 11 #[.agg (vals .u64 a)] w fun e w' => e = .returned (.bool (gsq (v2 a))) ∧ Below w.heap.size w w' := by
  have P1 : Keep (∀ x : World, Glob x → _) := ⟨fun x (hG : Glob x) => is_c (Fp.fe (gnorm (v2 a))) (fe_len _) (fe_words _) x hG⟩
  rw [sq_fe] at P1
  obtain ⟨S, hS⟩ : ∃ S, w.heap.size = S := ⟨_, rfl⟩
  have qa0 : Has (w.alloc (.cells (vals .u64 a) 26)) (S) 26 (vals .u64 a) := (Has.new' _ hS.symm _ _)
  have hb0 : Below S w (w.alloc (.cells (vals .u64 a) 26)) := by rw [← hS]; exact ((Below.refl _ _).alloc (Nat.le_refl _) _)
  have hsz0 : (w.alloc (.cells (vals .u64 a) 26)).heap.size = S + 1 := by simp only [World.size_alloc, hS]
  have HSS : Keep (∀ x : World, Below S w x → S ≤ x.heap.size) := ⟨fun x hb => Nat.le_trans (by omega) hb.size⟩
  have HG : Keep (∀ x : World, Below S w x → Glob x) := ⟨fun x hb => hG.keep (by rw [hS]; exact hb)⟩
  clear hG
  rw [hS]
  go_enter Tryd.func11, Tryd.ntmps11
  go_wp2_with (first
    | (have hq0 := hb1
       clear hq0
       go_at_call 21
       refine (P1.out _ (HG.out _ hb1)).mono ?_
       rintro e w2 ⟨rfl, hq⟩
       have qa2 := qa1.keep hq
       have hb2 := hb1.trans (hq.mono (HSS.out _ hb1))
       clear hq hb1 qa1)
    | (have hq0 := hb0
       clear hq0
       go_at_call 25
       refine (lNorm a ha _ (HG.out _ hb0)).mono ?_
       rintro e w1 ⟨rfl, hq⟩
       have qa1 := qa0.keep hq
       have hb1 := hb0.trans (hq.mono (HSS.out _ hb0))
       clear hq hb0 qa0)
    | (refine wpList_load_row rfl 26 (.tmp 1) rfl (S) rfl _ _ _ _ qa0.eq Tryd.underlying26 rfl (by rw [vals_size, ha.len]; kernel_rfl) ?_))
  go_ret
  exact ⟨rfl, hb2⟩

set_option maxRecDepth 100000 in
set_option maxHeartbeats 4000000 in
theorem lFst_z (x : List Int) (hx : Nm 6 x) (y : List Int) (hy : Nm 6 y) (h : Fp.fe (num x) = Z6) (w : World) (hG : Glob w) : Calls Tryd.prog 36 #[.agg (vals .u64 x), .agg (vals .u64 y)] w fun e w' => e = .returned (.agg (vals .u64 y)) ∧ Below w.heap.size w w' := by
  have E1 := eqn6' (Fp.fe (num x)) Z6 (fe_len _) rfl
  rw [decide_eq_true h] at E1
  obtain ⟨r, hr⟩ : ∃ r, Fp.fe (num x) = r := ⟨_, rfl⟩
  have P1 : Keep (∀ w : World, Glob w → _) := ⟨fun w (hG : Glob w) => pRed hx w hG⟩
  rw [hr] at E1 P1
  have hgd := gd6
  clear h hr
  obtain ⟨S, hS⟩ : ∃ S, w.heap.size = S := ⟨_, rfl⟩
  have Lo : Keep (Z6.length = 6) := ⟨rfl⟩
  have qx0 : Has (((w.alloc (.cells (vals .u64 x) 24)).alloc (.cells (vals .u64 y) 24)).alloc (.cells (vals .u64 Z6) 24)) (S) 24 (vals .u64 x) := (((Has.new' _ hS.symm _ _).alloc _).alloc _)
  have qy0 : Has (((w.alloc (.cells (vals .u64 x) 24)).alloc (.cells (vals .u64 y) 24)).alloc (.cells (vals .u64 Z6) 24)) (S + 1) 24 (vals .u64 y) := ((Has.new' _ (by simp only [World.size_alloc, hS]) _ _).alloc _)
  have qo0 : Has (((w.alloc (.cells (vals .u64 x) 24)).alloc (.cells (vals .u64 y) 24)).alloc (.cells (vals .u64 Z6) 24)) (S + 2) 24 (vals .u64 Z6) := (Has.new' _ (by simp only [World.size_alloc, hS]) _ _)
  have hb0 : Below S w (((w.alloc (.cells (vals .u64 x) 24)).alloc (.cells (vals .u64 y) 24)).alloc (.cells (vals .u64 Z6) 24)) := by rw [← hS]; exact ((((Below.refl _ _).alloc (Nat.le_refl _) _).alloc (by simp <;> omega) _).alloc (by simp <;> omega) _)
  have hsz0 : (((w.alloc (.cells (vals .u64 x) 24)).alloc (.cells (vals .u64 y) 24)).alloc (.cells (vals .u64 Z6) 24)).heap.size = S + 3 := by simp only [World.size_alloc, hS]
  have HSS : Keep (∀ x : World, Below S w x → S ≤ x.heap.size) := ⟨fun x hb => Nat.le_trans (by omega) hb.size⟩
  have HG : Keep (∀ x : World, Below S w x → Glob x) := ⟨fun x hb => hG.keep (by rw [hS]; exact hb)⟩
  clear hG
  rw [hS]
  go_enter Tryd.func36, Tryd.ntmps36
  go_wp2_with (first
    | (refine store_abs2 (by rfl) 24 (.tmp 4) (.tmp 9) (by rfl) (by rfl) (S + 2) (vals .u64 y) (by rfl) (by rfl) 24 _ qo1 (by rw [vals_size, hy.len]; kernel_rfl) (by first | rw [vals_size, vals_size, hy.len, Lo.out] | rfl) vals_one ?_
       intro w2 qo2 hkeep hbg
       have qx2 := hkeep _ _ _ qx1 (by omega)
       have qy2 := hkeep _ _ _ qy1 (by omega)
       have hb2 := hb1.trans (hbg.mono (by omega))
       clear hkeep hbg hb1 qx1 qy1 qo1)
    | (refine wpList_load_row rfl 24 (.tmp 3) rfl (S + 1) rfl _ _ _ _ qy1.eq Tryd.underlying24 rfl (by rw [vals_size, hy.len]; kernel_rfl) ?_)
    | (refine wpList_buildTo (by rfl) 24 #[] (by rfl) (some 7) (by rfl) (vals .u64 Z6) (by kernel_rfl) ?_)
    | (have hq0 := hb0
       clear hq0
       go_at_call 46
       refine (P1.out _ (HG.out _ hb0)).mono ?_
       rintro e w1 ⟨rfl, hq⟩
       have qx1 := qx0.keep hq
       have qy1 := qy0.keep hq
       have qo1 := qo0.keep hq
       have hb1 := hb0.trans (hq.mono (HSS.out _ hb0))
       clear hq hb0 qx0 qy0 qo0)
    | (refine wpList_load_row rfl 24 (.tmp 2) rfl (S) rfl _ _ _ _ qx0.eq Tryd.underlying24 rfl (by rw [vals_size, hx.len]; kernel_rfl) ?_))
  refine bodyPost_ret (v := .agg (vals .u64 y)) (results_cell_row rfl _ _ (S + 2) _ _ _ _ rfl qo2.eq Tryd.underlying24 rfl (by rw [vals_size, hy.len]; kernel_rfl)) rfl ⟨rfl, hb2⟩

set_option maxRecDepth 100000 in
set_option maxHeartbeats 4000000 in
theorem lFst_n (x : List Int) (hx : Nm 6 x) (y : List Int) (hy : Nm 6 y) (h : ¬ Fp.fe (num x) = Z6) (w : World) (hG : Glob w) : Calls Tryd.prog 36 #[.agg (vals .u64 x), .agg (vals .u64 y)] w fun e w' => e = .returned (.agg (vals .u64 x)) ∧ Below w.heap.size w w' := by
  have E1 := eqn6' (Fp.fe (num x)) Z6 (fe_len _) rfl
  rw [decide_eq_false h] at E1
  obtain ⟨r, hr⟩ : ∃ r, Fp.fe (num x) = r := ⟨_, rfl⟩
  have P1 : Keep (∀ w : World, Glob w → _) := ⟨fun w (hG : Glob w) => pRed hx w hG⟩
  rw [hr] at E1 P1
  have hgd := gd6
  clear h hr
  obtain ⟨S, hS⟩ : ∃ S, w.heap.size = S := ⟨_, rfl⟩
  have Lo : Keep (Z6.length = 6) := ⟨rfl⟩
  have qx0 : Has (((w.alloc (.cells (vals .u64 x) 24)).alloc (.cells (vals .u64 y) 24)).alloc (.cells (vals .u64 Z6) 24)) (S) 24 (vals .u64 x) := (((Has.new' _ hS.symm _ _).alloc _).alloc _)
  have qy0 : Has (((w.alloc (.cells (vals .u64 x) 24)).alloc (.cells (vals .u64 y) 24)).alloc (.cells (vals .u64 Z6) 24)) (S + 1) 24 (vals .u64 y) := ((Has.new' _ (by simp only [World.size_alloc, hS]) _ _).alloc _)
  have qo0 : Has (((w.alloc (.cells (vals .u64 x) 24)).alloc (.cells (vals .u64 y) 24)).alloc (.cells (vals .u64 Z6) 24)) (S + 2) 24 (vals .u64 Z6) := (Has.new' _ (by simp only [World.size_alloc, hS]) _ _)
  have hb0 : Below S w (((w.alloc (.cells (vals .u64 x) 24)).alloc (.cells (vals .u64 y) 24)).alloc (.cells (vals .u64 Z6) 24)) := by rw [← hS]; exact ((((Below.refl _ _).alloc (Nat.le_refl _) _).alloc (by simp <;> omega) _).alloc (by simp <;> omega) _)
  have hsz0 : (((w.alloc (.cells (vals .u64 x) 24)).alloc (.cells (vals .u64 y) 24)).alloc (.cells (vals .u64 Z6) 24)).heap.size = S + 3 := by simp only [World.size_alloc, hS]
  have HSS : Keep (∀ x : World, Below S w x → S ≤ x.heap.size) := ⟨fun x hb => Nat.le_trans (by omega) hb.size⟩
  have HG : Keep (∀ x : World, Below S w x → Glob x) := ⟨fun x hb => hG.keep (by rw [hS]; exact hb)⟩
  clear hG
  rw [hS]
  go_enter Tryd.func36, Tryd.ntmps36
  go_wp2_with (first
    | (refine store_abs2 (by rfl) 24 (.tmp 4) (.tmp 10) (by rfl) (by rfl) (S + 2) (vals .u64 x) (by rfl) (by rfl) 24 _ qo1 (by rw [vals_size, hx.len]; kernel_rfl) (by first | rw [vals_size, vals_size, hx.len, Lo.out] | rfl) vals_one ?_
       intro w2 qo2 hkeep hbg
       have qx2 := hkeep _ _ _ qx1 (by omega)
       have qy2 := hkeep _ _ _ qy1 (by omega)
       have hb2 := hb1.trans (hbg.mono (by omega))
       clear hkeep hbg hb1 qx1 qy1 qo1)
    | (refine wpList_load_row rfl 24 (.tmp 2) rfl (S) rfl _ _ _ _ qx1.eq Tryd.underlying24 rfl (by rw [vals_size, hx.len]; kernel_rfl) ?_)
    | (refine wpList_buildTo (by rfl) 24 #[] (by rfl) (some 7) (by rfl) (vals .u64 Z6) (by kernel_rfl) ?_)
    | (have hq0 := hb0
       clear hq0
       go_at_call 46
       refine (P1.out _ (HG.out _ hb0)).mono ?_
       rintro e w1 ⟨rfl, hq⟩
       have qx1 := qx0.keep hq
       have qy1 := qy0.keep hq
       have qo1 := qo0.keep hq
       have hb1 := hb0.trans (hq.mono (HSS.out _ hb0))
       clear hq hb0 qx0 qy0 qo0)
    | (refine wpList_load_row rfl 24 (.tmp 2) rfl (S) rfl _ _ _ _ qx0.eq Tryd.underlying24 rfl (by rw [vals_size, hx.len]; kernel_rfl) ?_))
  refine bodyPost_ret (v := .agg (vals .u64 x)) (results_cell_row rfl _ _ (S + 2) _ _ _ _ rfl qo2.eq Tryd.underlying24 rfl (by rw [vals_size, hx.len]; kernel_rfl)) rfl ⟨rfl, hb2⟩

set_option maxRecDepth 100000 in
set_option maxHeartbeats 4000000 in
theorem lSg_z (a : List Int) (ha : Nm 12 a) (h : (v2 a).1 % PP = 0) (w : World) (hG : Glob w) : Calls Tryd.prog 12 #[.agg (vals .u64 a)] w fun e w' => e = .returned (.int .i64 (sg2 (v2 a))) ∧ Below w.heap.size w w' := by
  have hv : sg2 (v2 a) = sgn (num (seg 6 6 a)) := by
    unfold sg2
    rw [if_pos h]
    rfl
  rw [hv]
  have P1 : Keep (∀ w : World, Glob w → _) := ⟨fun w (hG : Glob w) => lFst_z (seg 0 6 a) (ha.seg (n := 6) (off := 0) (by decide)) (seg 6 6 a) (ha.seg (n := 6) (off := 6) (by decide)) ((Z6_iff6 _).2 h) w hG⟩
  have P2 : Keep (∀ w : World, Glob w → _) := ⟨fun w (hG : Glob w) => sign_c (seg 6 6 a) (ha.seg (n := 6) (off := 6) (by decide)).len (ha.seg (n := 6) (off := 6) (by decide)).words w hG⟩
  obtain ⟨y, hy⟩ : ∃ y, sgn (num (seg 6 6 a)) = y := ⟨_, rfl⟩
  rw [hy] at P2 ⊢
  clear h hv hy
  obtain ⟨S, hS⟩ : ∃ S, w.heap.size = S := ⟨_, rfl⟩
  have qa0 : Has (w.alloc (.cells (vals .u64 a) 26)) (S) 26 (vals .u64 a) := (Has.new' _ hS.symm _ _)
  have hb0 : Below S w (w.alloc (.cells (vals .u64 a) 26)) := by rw [← hS]; exact ((Below.refl _ _).alloc (Nat.le_refl _) _)
  have hsz0 : (w.alloc (.cells (vals .u64 a) 26)).heap.size = S + 1 := by simp only [World.size_alloc, hS]
  have HSS : Keep (∀ x : World, Below S w x → S ≤ x.heap.size) := ⟨fun x hb => Nat.le_trans (by omega) hb.size⟩
  have HG : Keep (∀ x : World, Below S w x → Glob x) := ⟨fun x hb => hG.keep (by rw [hS]; exact hb)⟩
  clear hG
  rw [hS]
  go_enter Tryd.func12, Tryd.ntmps12
  go_wp2_with (first
    | (have hq0 := hb1
       clear hq0
       go_at_call 35
       refine (P2.out _ (HG.out _ hb1)).mono ?_
       rintro e w2 ⟨rfl, hq⟩
       have qa2 := qa1.keep hq
       have hb2 := hb1.trans (hq.mono (HSS.out _ hb1))
       clear hq hb1 qa1)
    | (have hq0 := hb0
       clear hq0
       go_at_call 36
       refine (P1.out _ (HG.out _ hb0)).mono ?_
       rintro e w1 ⟨rfl, hq⟩
       have qa1 := qa0.keep hq
       have hb1 := hb0.trans (hq.mono (HSS.out _ hb0))
       clear hq hb0 qa0)
    | (refine load_seg (by rfl) 24 (.tmp 5) (by rfl) (S) 6 6 (by rfl) 26 .u64 a (seg 6 6 a) _ qa0 Tryd.underlying24 rfl (by kernel_rfl) rfl (by rw [ha.len]; decide) ?_)
    | (refine load_seg (by rfl) 24 (.tmp 3) (by rfl) (S) 0 6 (by rfl) 26 .u64 a (seg 0 6 a) _ qa0 Tryd.underlying24 rfl (by kernel_rfl) rfl (by rw [ha.len]; decide) ?_))
  go_ret
  exact ⟨rfl, hb2⟩

set_option maxRecDepth 100000 in
set_option maxHeartbeats 4000000 in
theorem lSg_n (a : List Int) (ha : Nm 12 a) (h : ¬ (v2 a).1 % PP = 0) (w : World) (hG : Glob w) : Calls Tryd.prog 12 #[.agg (vals .u64 a)] w fun e w' => e = .returned (.int .i64 (sg2 (v2 a))) ∧ Below w.heap.size w w' := by
  have hv : sg2 (v2 a) = sgn (num (seg 0 6 a)) := by
    unfold sg2
    rw [if_neg h]
    rfl
  rw [hv]
  have P1 : Keep (∀ w : World, Glob w → _) := ⟨fun w (hG : Glob w) => lFst_n (seg 0 6 a) (ha.seg (n := 6) (off := 0) (by decide)) (seg 6 6 a) (ha.seg (n := 6) (off := 6) (by decide)) (fun e => h ((Z6_iff6 _).1 e)) w hG⟩
  have P2 : Keep (∀ w : World, Glob w → _) := ⟨fun w (hG : Glob w) => sign_c (seg 0 6 a) (ha.seg (n := 6) (off := 0) (by decide)).len (ha.seg (n := 6) (off := 0) (by decide)).words w hG⟩
  obtain ⟨y, hy⟩ : ∃ y, sgn (num (seg 0 6 a)) = y := ⟨_, rfl⟩
  rw [hy] at P2 ⊢
  clear h hv hy
  obtain ⟨S, hS⟩ : ∃ S, w.heap.size = S := ⟨_, rfl⟩
  have qa0 : Has (w.alloc (.cells (vals .u64 a) 26)) (S) 26 (vals .u64 a) := (Has.new' _ hS.symm _ _)
  have hb0 : Below S w (w.alloc (.cells (vals .u64 a) 26)) := by rw [← hS]; exact ((Below.refl _ _).alloc (Nat.le_refl _) _)
  have hsz0 : (w.alloc (.cells (vals .u64 a) 26)).heap.size = S + 1 := by simp only [World.size_alloc, hS]
  have HSS : Keep (∀ x : World, Below S w x → S ≤ x.heap.size) := ⟨fun x hb => Nat.le_trans (by omega) hb.size⟩
  have HG : Keep (∀ x : World, Below S w x → Glob x) := ⟨fun x hb => hG.keep (by rw [hS]; exact hb)⟩
  clear hG
  rw [hS]
  go_enter Tryd.func12, Tryd.ntmps12
  go_wp2_with (first
    | (have hq0 := hb1
       clear hq0
       go_at_call 35
       refine (P2.out _ (HG.out _ hb1)).mono ?_
       rintro e w2 ⟨rfl, hq⟩
       have qa2 := qa1.keep hq
       have hb2 := hb1.trans (hq.mono (HSS.out _ hb1))
       clear hq hb1 qa1)
    | (have hq0 := hb0
       clear hq0
       go_at_call 36
       refine (P1.out _ (HG.out _ hb0)).mono ?_
       rintro e w1 ⟨rfl, hq⟩
       have qa1 := qa0.keep hq
       have hb1 := hb0.trans (hq.mono (HSS.out _ hb0))
       clear hq hb0 qa0)
    | (refine load_seg (by rfl) 24 (.tmp 5) (by rfl) (S) 6 6 (by rfl) 26 .u64 a (seg 6 6 a) _ qa0 Tryd.underlying24 rfl (by kernel_rfl) rfl (by rw [ha.len]; decide) ?_)
    | (refine load_seg (by rfl) 24 (.tmp 3) (by rfl) (S) 0 6 (by rfl) 26 .u64 a (seg 0 6 a) _ qa0 Tryd.underlying24 rfl (by kernel_rfl) rfl (by rw [ha.len]; decide) ?_))
  go_ret
  exact ⟨rfl, hb2⟩

set_option maxRecDepth 100000 in
set_option maxHeartbeats 4000000 in
theorem gSg (a : List Int) (ha : Nm 12 a) (w : World) (hG : Glob w) : Calls Tryd.prog 12 #[.agg (vals .u64 a)] w fun e w' => e = .returned (.int .i64 (sg2 (v2 a))) ∧ Below w.heap.size w w' := by
  by_cases h : (v2 a).1 % PP = 0
  · exact lSg_z a ha h w hG
  · exact lSg_n a ha h w hG

set_option maxRecDepth 100000 in
set_option maxHeartbeats 4000000 in
theorem lBg_z (a : List Int) (ha : Nm 12 a) (h : (v2 a).2 % PP = 0) (w : World) (hG : Glob w) : Calls Tryd.prog 14 #[.agg (vals .u64 a)] w fun e w' => e = .returned (.bool (big2 (v2 a))) ∧ Below w.heap.size w w' := by
  have hv : big2 (v2 a) = big (num (seg 0 6 a)) := by
    unfold big2
    rw [if_pos h]
    rfl
  rw [hv]
  have P1 : Keep (∀ w : World, Glob w → _) := ⟨fun w (hG : Glob w) => lFst_z (seg 6 6 a) (ha.seg (n := 6) (off := 6) (by decide)) (seg 0 6 a) (ha.seg (n := 6) (off := 0) (by decide)) ((Z6_iff6 _).2 h) w hG⟩
  have P2 : Keep (∀ w : World, Glob w → _) := ⟨fun w (hG : Glob w) => bigger_c (seg 0 6 a) (ha.seg (n := 6) (off := 0) (by decide)).len (ha.seg (n := 6) (off := 0) (by decide)).words w hG⟩
  obtain ⟨y, hy⟩ : ∃ y, big (num (seg 0 6 a)) = y := ⟨_, rfl⟩
  rw [hy] at P2 ⊢
  clear h hv hy
  obtain ⟨S, hS⟩ : ∃ S, w.heap.size = S := ⟨_, rfl⟩
  have qa0 : Has (w.alloc (.cells (vals .u64 a) 26)) (S) 26 (vals .u64 a) := (Has.new' _ hS.symm _ _)
  have hb0 : Below S w (w.alloc (.cells (vals .u64 a) 26)) := by rw [← hS]; exact ((Below.refl _ _).alloc (Nat.le_refl _) _)
  have hsz0 : (w.alloc (.cells (vals .u64 a) 26)).heap.size = S + 1 := by simp only [World.size_alloc, hS]
  have HSS : Keep (∀ x : World, Below S w x → S ≤ x.heap.size) := ⟨fun x hb => Nat.le_trans (by omega) hb.size⟩
  have HG : Keep (∀ x : World, Below S w x → Glob x) := ⟨fun x hb => hG.keep (by rw [hS]; exact hb)⟩
  clear hG
  rw [hS]
  go_enter Tryd.func14, Tryd.ntmps14
  go_wp2_with (first
    | (have hq0 := hb1
       clear hq0
       go_at_call 39
       refine (P2.out _ (HG.out _ hb1)).mono ?_
       rintro e w2 ⟨rfl, hq⟩
       have qa2 := qa1.keep hq
       have hb2 := hb1.trans (hq.mono (HSS.out _ hb1))
       clear hq hb1 qa1)
    | (have hq0 := hb0
       clear hq0
       go_at_call 36
       refine (P1.out _ (HG.out _ hb0)).mono ?_
       rintro e w1 ⟨rfl, hq⟩
       have qa1 := qa0.keep hq
       have hb1 := hb0.trans (hq.mono (HSS.out _ hb0))
       clear hq hb0 qa0)
    | (refine load_seg (by rfl) 24 (.tmp 5) (by rfl) (S) 0 6 (by rfl) 26 .u64 a (seg 0 6 a) _ qa0 Tryd.underlying24 rfl (by kernel_rfl) rfl (by rw [ha.len]; decide) ?_)
    | (refine load_seg (by rfl) 24 (.tmp 3) (by rfl) (S) 6 6 (by rfl) 26 .u64 a (seg 6 6 a) _ qa0 Tryd.underlying24 rfl (by kernel_rfl) rfl (by rw [ha.len]; decide) ?_))
  go_ret
  exact ⟨rfl, hb2⟩

set_option maxRecDepth 100000 in
set_option maxHeartbeats 4000000 in
theorem lBg_n (a : List Int) (ha : Nm 12 a) (h : ¬ (v2 a).2 % PP = 0) (w : World) (hG : Glob w) : Calls Tryd.prog 14 #[.agg (vals .u64 a)] w fun e w' => e = .returned (.bool (big2 (v2 a))) ∧ Below w.heap.size w w' := by
  have hv : big2 (v2 a) = big (num (seg 6 6 a)) := by
    unfold big2
    rw [if_neg h]
    rfl
  rw [hv]
  have P1 : Keep (∀ w : World, Glob w → _) := ⟨fun w (hG : Glob w) => lFst_n (seg 6 6 a) (ha.seg (n := 6) (off := 6) (by decide)) (seg 0 6 a) (ha.seg (n := 6) (off := 0) (by decide)) (fun e => h ((Z6_iff6 _).1 e)) w hG⟩
  have P2 : Keep (∀ w : World, Glob w → _) := ⟨fun w (hG : Glob w) => bigger_c (seg 6 6 a) (ha.seg (n := 6) (off := 6) (by decide)).len (ha.seg (n := 6) (off := 6) (by decide)).words w hG⟩
  obtain ⟨y, hy⟩ : ∃ y, big (num (seg 6 6 a)) = y := ⟨_, rfl⟩
  rw [hy] at P2 ⊢
  clear h hv hy
  obtain ⟨S, hS⟩ : ∃ S, w.heap.size = S := ⟨_, rfl⟩
  have qa0 : Has (w.alloc (.cells (vals .u64 a) 26)) (S) 26 (vals .u64 a) := (Has.new' _ hS.symm _ _)
  have hb0 : Below S w (w.alloc (.cells (vals .u64 a) 26)) := by rw [← hS]; exact ((Below.refl _ _).alloc (Nat.le_refl _) _)
  have hsz0 : (w.alloc (.cells (vals .u64 a) 26)).heap.size = S + 1 := by simp only [World.size_alloc, hS]
  have HSS : Keep (∀ x : World, Below S w x → S ≤ x.heap.size) := ⟨fun x hb => Nat.le_trans (by omega) hb.size⟩
  have HG : Keep (∀ x : World, Below S w x → Glob x) := ⟨fun x hb => hG.keep (by rw [hS]; exact hb)⟩
  clear hG
  rw [hS]
  go_enter Tryd.func14, Tryd.ntmps14
  go_wp2_with (first
    | (have hq0 := hb1
       clear hq0
       go_at_call 39
       refine (P2.out _ (HG.out _ hb1)).mono ?_
       rintro e w2 ⟨rfl, hq⟩
       have qa2 := qa1.keep hq
       have hb2 := hb1.trans (hq.mono (HSS.out _ hb1))
       clear hq hb1 qa1)
    | (have hq0 := hb0
       clear hq0
       go_at_call 36
       refine (P1.out _ (HG.out _ hb0)).mono ?_
       rintro e w1 ⟨rfl, hq⟩
       have qa1 := qa0.keep hq
       have hb1 := hb0.trans (hq.mono (HSS.out _ hb0))
       clear hq hb0 qa0)
    | (refine load_seg (by rfl) 24 (.tmp 5) (by rfl) (S) 0 6 (by rfl) 26 .u64 a (seg 0 6 a) _ qa0 Tryd.underlying24 rfl (by kernel_rfl) rfl (by rw [ha.len]; decide) ?_)
    | (refine load_seg (by rfl) 24 (.tmp 3) (by rfl) (S) 6 6 (by rfl) 26 .u64 a (seg 6 6 a) _ qa0 Tryd.underlying24 rfl (by kernel_rfl) rfl (by rw [ha.len]; decide) ?_))
  go_ret
  exact ⟨rfl, hb2⟩

set_option maxRecDepth 100000 in
set_option maxHeartbeats 4000000 in
theorem gBg (a : List Int) (ha : Nm 12 a) (w : World) (hG : Glob w) : Calls Tryd.prog 14 #[.agg (vals .u64 a)] w fun e w' => e = .returned (.bool (big2 (v2 a))) ∧ Below w.heap.size w w' := by
  by_cases h : (v2 a).2 % PP = 0
  · exact lBg_z a ha h w hG
  · exact lBg_n a ha h w hG

set_option maxRecDepth 100000 in
set_option maxHeartbeats 4000000 in
theorem lHalf (x : List Int) (hx : Nm 6 x) (w : World) (hG : Glob w) : Calls Tryd.prog 28 #[.agg (vals .u64 x)] w fun e w' => e = .returned (.agg (vals .u64 (Fp.fe (hv (num x))))) ∧ Below w.heap.size w w' := by
  obtain ⟨S, hS⟩ : ∃ S, w.heap.size = S := ⟨_, rfl⟩
  have Lo : Keep (Z6.length = 6) := ⟨rfl⟩
  have qx0 : Has ((w.alloc (.cells (vals .u64 x) 24)).alloc (.cells (vals .u64 Z6) 24)) (S) 24 (vals .u64 x) := ((Has.new' _ hS.symm _ _).alloc _)
  have qo0 : Has ((w.alloc (.cells (vals .u64 x) 24)).alloc (.cells (vals .u64 Z6) 24)) (S + 1) 24 (vals .u64 Z6) := (Has.new' _ (by simp only [World.size_alloc, hS]) _ _)
  have hb0 : Below S w ((w.alloc (.cells (vals .u64 x) 24)).alloc (.cells (vals .u64 Z6) 24)) := by rw [← hS]; exact (((Below.refl _ _).alloc (Nat.le_refl _) _).alloc (by simp <;> omega) _)
  have hsz0 : ((w.alloc (.cells (vals .u64 x) 24)).alloc (.cells (vals .u64 Z6) 24)).heap.size = S + 2 := by simp only [World.size_alloc, hS]
  have HSS : Keep (∀ x : World, Below S w x → S ≤ x.heap.size) := ⟨fun x hb => Nat.le_trans (by omega) hb.size⟩
  have HG : Keep (∀ x : World, Below S w x → Glob x) := ⟨fun x hb => hG.keep (by rw [hS]; exact hb)⟩
  clear hG
  rw [hS]
  go_enter Tryd.func28, Tryd.ntmps28
  go_wp2_with (first
    | (refine store_abs2 (by rfl) 24 (.tmp 2) (.tmp 7) (by rfl) (by rfl) (S + 1) (vals .u64 (Fp.fe (num x * num hfL))) (by rfl) (by rfl) 24 _ qo2 (by rw [vals_size, (Nm.fe _).len]; kernel_rfl) (by first | rw [vals_size, vals_size, (Nm.fe _).len, Lo.out] | rfl) vals_one ?_
       intro w3 qo3 hkeep hbg
       have qx3 := hkeep _ _ _ qx2 (by omega)
       have qc3 := hkeep _ _ _ qc2 (by omega)
       have hb3 := hb2.trans (hbg.mono (by omega))
       clear hkeep hbg hb2 qx2 qo2 qc2)
    | (have hq0 := hb1
       clear hq0
       go_at_call 20
       refine (pMul hx hfL_nm _ (HG.out _ hb1)).mono ?_
       rintro e w2 ⟨rfl, hq⟩
       have qx2 := qx1.keep hq
       have qo2 := qo1.keep hq
       have qc2 := qc1.keep hq
       have hb2 := hb1.trans (hq.mono (HSS.out _ hb1))
       clear hq hb1 qx1 qo1 qc1)
    | (refine wpList_load_row rfl 24 (.tmp 3) rfl ((S + 2)) rfl _ _ _ _ qc1.eq Tryd.underlying24 rfl (by rw [vals_size, hfL_nm.len]; kernel_rfl) ?_)
    | (refine wpList_load_row rfl 24 (.tmp 1) rfl (S) rfl _ _ _ _ qx1.eq Tryd.underlying24 rfl (by rw [vals_size, hx.len]; kernel_rfl) ?_)
    | (refine store_abs2 (by rfl) 24 (.tmp 3) (.tmp 4) (by rfl) (by rfl) ((S + 2)) (vals .u64 hfL) (by rfl) (by rfl) 24 (vals .u64 Z6) (Has.new' _ (by simp only [World.size_alloc, hS]) _ _) (by rw [vals_size, hfL_nm.len]; kernel_rfl) (by first | (rw [vals_size, vals_size, hfL_nm.len]; rfl) | rfl) vals_one ?_
       intro w1 qc1 hkeep hbg
       have hbe := ((Below.refl (((w.alloc (.cells (vals .u64 x) 24)).alloc (.cells (vals .u64 Z6) 24))).heap.size (((w.alloc (.cells (vals .u64 x) 24)).alloc (.cells (vals .u64 Z6) 24)))).alloc (Nat.le_refl _) (.cells (vals .u64 Z6) 24)).trans (by rw [hsz0]; exact hbg)
       have Nxc : S < S + 2 := by omega
       have qx1 := qx0.keep hbe
       have Noc : S + 1 < S + 2 := by omega
       have qo1 := qo0.keep hbe
       have Mc : S ≤ (S + 2) := by omega
       have hb1 := hb0.trans (hbe.mono (HSS.out _ hb0))
       clear hkeep hbg hbe hb0 qx0 qo0)
    | (refine wpList_buildTo (by rfl) 24 #[(0, .const (.int .u64 15924587544893707606)), (1, .const (.int .u64 1105070755758604287)), (2, .const (.int .u64 12941209323636816658)), (3, .const (.int .u64 12843041017062132063)), (4, .const (.int .u64 2706051889235351147)), (5, .const (.int .u64 936899308823769933))] (by rfl) (some 4) (by rfl) (vals .u64 hfL) (by kernel_rfl) ?_))
  refine bodyPost_ret (v := .agg (vals .u64 (Fp.fe (num x * num hfL)))) (results_cell_row rfl _ _ (S + 1) _ _ _ _ rfl qo3.eq Tryd.underlying24 rfl (by rw [vals_size, (Nm.fe _).len]; kernel_rfl)) rfl ⟨rfl, hb3⟩

set_option maxRecDepth 100000 in
set_option maxHeartbeats 4000000 in
theorem lOther (x : List Int) (hx : Nm 6 x) (b : List Int) (hb : Nm 6 b) (kb : Nat) (w : World) (hG : GlobD w) (qb : Has w kb 24 (vals .u64 b)) : Calls Tryd.prog 56 #[.agg (vals .u64 x), .pointer (some ⟨kb, 0, none⟩)] w fun e w' => e = .returned (.agg (vals .u64 (Fp.fe (hv (num b) * iv (num x))))) ∧ Below w.heap.size w w' := by
  obtain ⟨S, hS⟩ : ∃ S, w.heap.size = S := ⟨_, rfl⟩
  have Lo : Keep (Z6.length = 6) := ⟨rfl⟩
  have qx0 : Has ((w.alloc (.cells (vals .u64 x) 24)).alloc (.cells (vals .u64 Z6) 24)) (S) 24 (vals .u64 x) := ((Has.new' _ hS.symm _ _).alloc _)
  have qo0 : Has ((w.alloc (.cells (vals .u64 x) 24)).alloc (.cells (vals .u64 Z6) 24)) (S + 1) 24 (vals .u64 Z6) := (Has.new' _ (by simp only [World.size_alloc, hS]) _ _)
  have hb0 : Below S w ((w.alloc (.cells (vals .u64 x) 24)).alloc (.cells (vals .u64 Z6) 24)) := by rw [← hS]; exact (((Below.refl _ _).alloc (Nat.le_refl _) _).alloc (by simp <;> omega) _)
  have hsz0 : ((w.alloc (.cells (vals .u64 x) 24)).alloc (.cells (vals .u64 Z6) 24)).heap.size = S + 2 := by simp only [World.size_alloc, hS]
  have HSS : Keep (∀ x : World, Below S w x → S ≤ x.heap.size) := ⟨fun x hb => Nat.le_trans (by omega) hb.size⟩
  have HD : Keep (∀ x : World, Below S w x → GlobD x) := ⟨fun x hb => hG.keep (by rw [hS]; exact hb)⟩
  have HG : Keep (∀ x : World, Below S w x → Glob x) := ⟨fun x hb => (HD.out x hb).toGlob⟩
  clear hG
  have qb0 : Has ((w.alloc (.cells (vals .u64 x) 24)).alloc (.cells (vals .u64 Z6) 24)) kb 24 (vals .u64 b) := ((qb.alloc _).alloc _)
  have Ob : kb < S := hS ▸ qb.lt
  clear qb
  rw [hS]
  go_enter Tryd.func56, Tryd.ntmps56
  go_wp2
  change Code.wp _ _ _ _ (((w.alloc (.cells (vals .u64 x) 24)).alloc (.cells (vals .u64 Z6) 24)))
  obtain ⟨w0, hw0⟩ : ∃ w9 : World, ((w.alloc (.cells (vals .u64 x) 24)).alloc (.cells (vals .u64 Z6) 24)) = w9 := ⟨_, rfl⟩
  rw [hw0] at hb0 hsz0 qx0 qo0 qb0 ⊢
  clear hw0
  refine wp_reads 5 1 (S + 1) (by kernel_rfl) (by kernel_rfl) (by rfl) (by kernel_rfl) (fun _ _ d _ _ h => by cases d <;> exact h) ?_
  simp only [List.take_succ_cons, List.take_zero]
  repeat ((first
    | refine take_loadw (by rfl) 24 (by rfl) (g := S) (n := 6) (by rfl) (t := 24) (xs := x) (fun w hw => hw.has qx0 (by omega)) Tryd.underlying24 rfl (by kernel_rfl) hx.len ?_
    | refine take_loadw (by rfl) 24 (by rfl) (g := kb) (n := 6) (by rfl) (t := 24) (xs := b) (fun w hw => hw.has qb0 (by omega)) Tryd.underlying24 rfl (by kernel_rfl) hb.len ?_
    | refine wpTake_cons (.inl ⟨by rfl, fun w hw => (by unfold Oper.quietAt; go_simp; (first | with_reducible refine pRed ?_ _ (HG.out _ (hb0.trans (hw.below (by first | omega | exact HSS.out _ hb0) (HSS.out _ hb0)))) | with_reducible refine pAdd ?_ ?_ _ (HG.out _ (hb0.trans (hw.below (by first | omega | exact HSS.out _ hb0) (HSS.out _ hb0)))) | with_reducible refine pSub ?_ ?_ _ (HG.out _ (hb0.trans (hw.below (by first | omega | exact HSS.out _ hb0) (HSS.out _ hb0)))) | with_reducible refine pMul ?_ ?_ _ (HG.out _ (hb0.trans (hw.below (by first | omega | exact HSS.out _ hb0) (HSS.out _ hb0)))) | with_reducible refine pNeg ?_ _ (HG.out _ (hb0.trans (hw.below (by first | omega | exact HSS.out _ hb0) (HSS.out _ hb0)))) | with_reducible refine pInv ?_ _ (HD.out _ (hb0.trans (hw.below (by first | omega | exact HSS.out _ hb0) (HSS.out _ hb0)))) | with_reducible refine lHalf _ ?_ _ (HG.out _ (hb0.trans (hw.below (by first | omega | exact HSS.out _ hb0) (HSS.out _ hb0))))) <;> (with_reducible first | exact Nm.fe _ | exact Nm.F2 _ | assumption | exact nm_one | exact nm_Z6 | (refine Nm.seg (m := 12) ?_ (by decide); assumption) | exact Nm.seg (m := 12) (Nm.F2 _) (by decide) | exact Nm.app2 (.fe _) (.fe _) | fail))⟩) ?_
    | refine wpTake_cons (Steady.of_yields (Or.inl ⟨by rfl, fun w => (by first | (go_simp; done) | (go_simp; with_reducible rfl))⟩)) ?_); simp only [List.getElem_toArray, List.getElem_cons_zero, List.getElem_cons_succ, Act.put, List.setIfInBounds_toArray, List.set_cons_zero, List.set_cons_succ])
  refine wpTake_nil ?_
  refine tail_store (i := 5) (by rfl) (by kernel_rfl) (by kernel_rfl) (by rfl) 24 (.tmp 3) (.tmp 8) (by rfl) (by rfl) (S + 1) _ (by rfl) (by rfl) 24 _ qo0 (by rw [vals_size, (Nm.fe _).len]; kernel_rfl) (by rw [vals_size, vals_size, (Nm.fe _).len]; rfl) vals_one ?_
  intro w1 qo1 hbt
  have qx1 := hbt.has qx0 (by omega)
  have qb1 := hbt.has qb0 (by omega)
  have hb1 := hb0.trans (hbt.below (by omega) (HSS.out _ hb0))
  clear hbt hb0 qx0 qo0 qb0
  go_wp2
  refine bodyPost_ret (v := .agg (vals .u64 _)) (results_cell_row rfl _ _ (S + 1) _ _ _ _ rfl qo1.eq Tryd.underlying24 rfl (by rw [vals_size, (Nm.fe _).len]; kernel_rfl)) rfl ⟨ret_eq (congrArg (fun z => Value.agg (vals .u64 z)) (other_v x b)), hb1⟩

set_option maxRecDepth 100000 in
set_option maxHeartbeats 4000000 in
theorem lRh_yes (x : List Int) (hx : Nm 6 x) (b : List Int) (hb : Nm 6 b) (h : sq (num x) = true) (w : World) (hG : GlobD w) : Calls Tryd.prog 27 #[.agg (vals .u64 x), .agg (vals .u64 b)] w fun e w' => e = .returned (.agg (vals .u64 (F2 (rh (num x) (num b))))) ∧ Below w.heap.size w w' := by
  have hmf : ∀ (fn : Fn) (first cap : Array Value) (w : World), (Instr.makeFunc fn first cap).run Tryd.prog w = .ok (.func fn first cap) w := fun _ _ _ _ => rfl
  obtain ⟨r, hr⟩ : ∃ r, (rwd (num x)) = r := ⟨_, rfl⟩
  have nr : Nm 6 r := hr ▸ rwd_nm _
  have NB : Keep (Nm 6 b) := ⟨hb⟩
  have P1 : Keep (∀ w : World, Glob w → _) := ⟨fun w (hG : Glob w) => pSqrt hx w hG⟩
  rw [h] at P1
  rw [hr] at P1
  have h9 : Keep _ := ⟨h⟩
  have hr9 : Keep _ := ⟨hr⟩
  clear h hr
  obtain ⟨S, hS⟩ : ∃ S, w.heap.size = S := ⟨_, rfl⟩
  have Lo : Keep (Fp2.Z12.length = 12) := ⟨rfl⟩
  have qx0 : Has (((w.alloc (.cells (vals .u64 x) 24)).alloc (.cells (vals .u64 b) 24)).alloc (.cells (vals .u64 Fp2.Z12) 26)) (S) 24 (vals .u64 x) := (((Has.new' _ hS.symm _ _).alloc _).alloc _)
  have qb0 : Has (((w.alloc (.cells (vals .u64 x) 24)).alloc (.cells (vals .u64 b) 24)).alloc (.cells (vals .u64 Fp2.Z12) 26)) (S + 1) 24 (vals .u64 b) := ((Has.new' _ (by simp only [World.size_alloc, hS]) _ _).alloc _)
  have qo0 : Has (((w.alloc (.cells (vals .u64 x) 24)).alloc (.cells (vals .u64 b) 24)).alloc (.cells (vals .u64 Fp2.Z12) 26)) (S + 2) 26 (vals .u64 Fp2.Z12) := (Has.new' _ (by simp only [World.size_alloc, hS]) _ _)
  have hb0 : Below S w (((w.alloc (.cells (vals .u64 x) 24)).alloc (.cells (vals .u64 b) 24)).alloc (.cells (vals .u64 Fp2.Z12) 26)) := by rw [← hS]; exact ((((Below.refl _ _).alloc (Nat.le_refl _) _).alloc (by simp <;> omega) _).alloc (by simp <;> omega) _)
  have hsz0 : (((w.alloc (.cells (vals .u64 x) 24)).alloc (.cells (vals .u64 b) 24)).alloc (.cells (vals .u64 Fp2.Z12) 26)).heap.size = S + 3 := by simp only [World.size_alloc, hS]
  have HSS : Keep (∀ x : World, Below S w x → S ≤ x.heap.size) := ⟨fun x hb => Nat.le_trans (by omega) hb.size⟩
  have HD : Keep (∀ x : World, Below S w x → GlobD x) := ⟨fun x hb => hG.keep (by rw [hS]; exact hb)⟩
  have HG : Keep (∀ x : World, Below S w x → Glob x) := ⟨fun x hb => (HD.out x hb).toGlob⟩
  clear hG
  rw [hS]
  go_enter Tryd.func27, Tryd.ntmps27
  go_wp2_with (first
    | (refine store_abs2 (by rfl) 24 (.tmp 6) (.tmp 14) (by rfl) (by rfl) (w1.heap.size) (vals .u64 r) (by rfl) (by rfl) 24 (vals .u64 Z6) (Has.new' _ rfl _ _) (by rw [vals_size, nr.len]; kernel_rfl) (by first | (rw [vals_size, vals_size, nr.len]; rfl) | rfl) vals_one ?_
       intro w2 qr2 hkeep hbg
       have hbe := ((Below.refl w1.heap.size w1).alloc (Nat.le_refl _) (.cells (vals .u64 Z6) 24)).trans hbg
       have Nxr := qx1.lt
       have qx2 := qx1.keep hbe
       have Nbr := qb1.lt
       have qb2 := qb1.keep hbe
       have Nor := qo1.lt
       have qo2 := qo1.keep hbe
       have Mr : S ≤ w1.heap.size := HSS.out _ hb1
       have hb2 := hb1.trans (hbe.mono (HSS.out _ hb1))
       clear hkeep hbg hbe hb1 qx1 qb1 qo1)
    | (have hq0 := hb0
       clear hq0
       go_at_call 24
       refine (P1.out _ (HG.out _ hb0)).mono ?_
       rintro e w1 ⟨rfl, hq⟩
       have qx1 := qx0.keep hq
       have qb1 := qb0.keep hq
       have qo1 := qo0.keep hq
       have hb1 := hb0.trans (hq.mono (HSS.out _ hb0))
       clear hq hb0 qx0 qb0 qo0)
    | (refine wpList_load_row rfl 24 (.tmp 2) rfl (S) rfl _ _ _ _ qx0.eq Tryd.underlying24 rfl (by rw [vals_size, hx.len]; kernel_rfl) ?_))
  refine wp_reads 5 1 (S + 2) (by kernel_rfl) (by kernel_rfl) (by rfl) (by kernel_rfl) (fun _ _ d _ _ h => by cases d <;> exact h) ?_
  simp only [List.take_succ_cons, List.take_zero]
  repeat ((first
    | refine take_loadw (by rfl) 24 (by rfl) (g := S) (n := 6) (by rfl) (t := 24) (xs := x) (fun w hw => hw.has qx2 (by omega)) Tryd.underlying24 rfl (by kernel_rfl) hx.len ?_
    | refine take_loadw (by rfl) 24 (by rfl) (g := S + 1) (n := 6) (by rfl) (t := 24) (xs := b) (fun w hw => hw.has qb2 (by omega)) Tryd.underlying24 rfl (by kernel_rfl) hb.len ?_
    | refine take_loadw (by rfl) 24 (by rfl) (g := w1.heap.size) (n := 6) (by rfl) (t := 24) (xs := r) (fun w hw => hw.has qr2 (by omega)) Tryd.underlying24 rfl (by kernel_rfl) nr.len ?_
    | refine take_build (by rfl) (by rfl) (by refine build2 ?_ ?_ <;> (with_reducible first | exact Nm.fe _ | exact Nm.F2 _ | assumption | exact nm_one | exact nm_Z6 | (refine Nm.seg (m := 12) ?_ (by decide); assumption) | exact Nm.seg (m := 12) (Nm.F2 _) (by decide) | exact Nm.app2 (.fe _) (.fe _) | fail)) ?_
    | refine wpTake_cons (.inl ⟨by rfl, fun w hw => (by unfold Oper.quietAt; go_simp; (first | with_reducible refine pRed ?_ _ (HG.out _ (hb2.trans (hw.below (by first | omega | exact HSS.out _ hb2) (HSS.out _ hb2)))) | with_reducible refine pAdd ?_ ?_ _ (HG.out _ (hb2.trans (hw.below (by first | omega | exact HSS.out _ hb2) (HSS.out _ hb2)))) | with_reducible refine pSub ?_ ?_ _ (HG.out _ (hb2.trans (hw.below (by first | omega | exact HSS.out _ hb2) (HSS.out _ hb2)))) | with_reducible refine pMul ?_ ?_ _ (HG.out _ (hb2.trans (hw.below (by first | omega | exact HSS.out _ hb2) (HSS.out _ hb2)))) | with_reducible refine pNeg ?_ _ (HG.out _ (hb2.trans (hw.below (by first | omega | exact HSS.out _ hb2) (HSS.out _ hb2)))) | with_reducible refine lOther _ ?_ b NB.out _ _ (HD.out _ (hb2.trans (hw.below (by first | omega | exact HSS.out _ hb2) (HSS.out _ hb2)))) (hw.has qb2 (by omega))) <;> (with_reducible first | exact Nm.fe _ | exact Nm.F2 _ | assumption | exact nm_one | exact nm_Z6 | (refine Nm.seg (m := 12) ?_ (by decide); assumption) | exact Nm.seg (m := 12) (Nm.F2 _) (by decide) | exact Nm.app2 (.fe _) (.fe _) | fail))⟩) ?_
    | refine wpTake_cons (Steady.of_yields (Or.inl ⟨by rfl, fun w => (by first | (go_simp; done) | (go_simp; with_reducible rfl))⟩)) ?_); simp only [List.getElem_toArray, List.getElem_cons_zero, List.getElem_cons_succ, Act.put, List.setIfInBounds_toArray, List.set_cons_zero, List.set_cons_succ])
  refine wpTake_nil ?_
  refine tail_store (i := 5) (by rfl) (by kernel_rfl) (by kernel_rfl) (by rfl) 26 (.tmp 4) (.tmp 21) (by rfl) (by rfl) (S + 2) _ (by rfl) (by rfl) 26 _ qo2 (by rw [vals_size, (Nm.app2 nr (.fe _)).len]; kernel_rfl) (by rw [vals_size, vals_size, (Nm.app2 nr (.fe _)).len]; rfl) vals_one ?_
  intro w3 qo3 hbt
  have qx3 := hbt.has qx2 (by omega)
  have qb3 := hbt.has qb2 (by omega)
  have qr3 := hbt.has qr2 (by omega)
  have hb3 := hb2.trans (hbt.below (by omega) (HSS.out _ hb2))
  clear hbt hb2 qx2 qb2 qo2 qr2
  go_wp2
  refine bodyPost_ret (v := .agg (vals .u64 _)) (results_cell_row rfl _ _ (S + 2) _ _ _ _ rfl qo3.eq Tryd.underlying26 rfl (by rw [vals_size, (Nm.app2 nr (.fe _)).len]; kernel_rfl)) rfl ⟨ret_eq (congrArg (fun z => Value.agg (vals .u64 z)) (by rw [← hr9.out]; exact rh_yes h9.out)), hb3⟩

set_option maxRecDepth 100000 in
set_option maxHeartbeats 4000000 in
theorem lRh_no (x : List Int) (hx : Nm 6 x) (b : List Int) (hb : Nm 6 b) (h : sq (num x) = false) (w : World) (hG : GlobD w) : Calls Tryd.prog 27 #[.agg (vals .u64 x), .agg (vals .u64 b)] w fun e w' => e = .returned (.agg (vals .u64 (F2 (rh (num x) (num b))))) ∧ Below w.heap.size w w' := by
  have hmf : ∀ (fn : Fn) (first cap : Array Value) (w : World), (Instr.makeFunc fn first cap).run Tryd.prog w = .ok (.func fn first cap) w := fun _ _ _ _ => rfl
  obtain ⟨r, hr⟩ : ∃ r, (rwd (-num x)) = r := ⟨_, rfl⟩
  have nr : Nm 6 r := hr ▸ rwd_nm _
  have NB : Keep (Nm 6 b) := ⟨hb⟩
  have P1 : Keep (∀ w : World, Glob w → _) := ⟨fun w (hG : Glob w) => pSqrt hx w hG⟩
  rw [h] at P1
  have hz : rwd (num x) = Z6 := by rw [rwd, if_neg (by rw [h]; decide)]
  rw [hz] at P1
  have P2 : Keep (∀ w : World, Glob w → _) := ⟨fun w (hG : Glob w) => pSqrt (.fe (-num x)) w hG⟩
  rw [rwd_fe, hr] at P2
  clear hz
  have h9 : Keep _ := ⟨h⟩
  have hr9 : Keep _ := ⟨hr⟩
  clear h hr
  obtain ⟨S, hS⟩ : ∃ S, w.heap.size = S := ⟨_, rfl⟩
  have Lo : Keep (Fp2.Z12.length = 12) := ⟨rfl⟩
  have qx0 : Has (((w.alloc (.cells (vals .u64 x) 24)).alloc (.cells (vals .u64 b) 24)).alloc (.cells (vals .u64 Fp2.Z12) 26)) (S) 24 (vals .u64 x) := (((Has.new' _ hS.symm _ _).alloc _).alloc _)
  have qb0 : Has (((w.alloc (.cells (vals .u64 x) 24)).alloc (.cells (vals .u64 b) 24)).alloc (.cells (vals .u64 Fp2.Z12) 26)) (S + 1) 24 (vals .u64 b) := ((Has.new' _ (by simp only [World.size_alloc, hS]) _ _).alloc _)
  have qo0 : Has (((w.alloc (.cells (vals .u64 x) 24)).alloc (.cells (vals .u64 b) 24)).alloc (.cells (vals .u64 Fp2.Z12) 26)) (S + 2) 26 (vals .u64 Fp2.Z12) := (Has.new' _ (by simp only [World.size_alloc, hS]) _ _)
  have hb0 : Below S w (((w.alloc (.cells (vals .u64 x) 24)).alloc (.cells (vals .u64 b) 24)).alloc (.cells (vals .u64 Fp2.Z12) 26)) := by rw [← hS]; exact ((((Below.refl _ _).alloc (Nat.le_refl _) _).alloc (by simp <;> omega) _).alloc (by simp <;> omega) _)
  have hsz0 : (((w.alloc (.cells (vals .u64 x) 24)).alloc (.cells (vals .u64 b) 24)).alloc (.cells (vals .u64 Fp2.Z12) 26)).heap.size = S + 3 := by simp only [World.size_alloc, hS]
  have HSS : Keep (∀ x : World, Below S w x → S ≤ x.heap.size) := ⟨fun x hb => Nat.le_trans (by omega) hb.size⟩
  have HD : Keep (∀ x : World, Below S w x → GlobD x) := ⟨fun x hb => hG.keep (by rw [hS]; exact hb)⟩
  have HG : Keep (∀ x : World, Below S w x → Glob x) := ⟨fun x hb => (HD.out x hb).toGlob⟩
  clear hG
  rw [hS]
  go_enter Tryd.func27, Tryd.ntmps27
  go_wp2_with (first
    | (refine store_abs2 (by rfl) 24 (.tmp 8) (.tmp 26) (by rfl) (by rfl) (w4.heap.size) (vals .u64 r) (by rfl) (by rfl) 24 (vals .u64 Z6) (Has.new' _ rfl _ _) (by rw [vals_size, nr.len]; kernel_rfl) (by first | (rw [vals_size, vals_size, nr.len]; rfl) | rfl) vals_one ?_
       intro w5 qr5 hkeep hbg
       have hbe := ((Below.refl w4.heap.size w4).alloc (Nat.le_refl _) (.cells (vals .u64 Z6) 24)).trans hbg
       have Nxr := qx4.lt
       have qx5 := qx4.keep hbe
       have Nbr := qb4.lt
       have qb5 := qb4.keep hbe
       have Nor := qo4.lt
       have qo5 := qo4.keep hbe
       have Nsr := qs4.lt
       have qs5 := qs4.keep hbe
       have Mr : S ≤ w4.heap.size := HSS.out _ hb4
       have hb5 := hb4.trans (hbe.mono (HSS.out _ hb4))
       clear hkeep hbg hbe hb4 qx4 qb4 qo4 qs4)
    | (have hq0 := hb3
       clear hq0
       go_at_call 24
       refine (P2.out _ (HG.out _ hb3)).mono ?_
       rintro e w4 ⟨rfl, hq⟩
       have qx4 := qx3.keep hq
       have qb4 := qb3.keep hq
       have qo4 := qo3.keep hq
       have qs4 := qs3.keep hq
       have hb4 := hb3.trans (hq.mono (HSS.out _ hb3))
       clear hq hb3 qx3 qb3 qo3 qs3)
    | (have hq0 := hb2
       clear hq0
       go_at_call 23
       refine (pNeg hx _ (HG.out _ hb2)).mono ?_
       rintro e w3 ⟨rfl, hq⟩
       have qx3 := qx2.keep hq
       have qb3 := qb2.keep hq
       have qo3 := qo2.keep hq
       have qs3 := qs2.keep hq
       have hb3 := hb2.trans (hq.mono (HSS.out _ hb2))
       clear hq hb2 qx2 qb2 qo2 qs2)
    | (refine wpList_load_row rfl 24 (.tmp 2) rfl (S) rfl _ _ _ _ qx2.eq Tryd.underlying24 rfl (by rw [vals_size, hx.len]; kernel_rfl) ?_)
    | (refine store_abs2 (by rfl) 24 (.tmp 6) (.tmp 14) (by rfl) (by rfl) (w1.heap.size) (vals .u64 Z6) (by rfl) (by rfl) 24 (vals .u64 Z6) (Has.new' _ rfl _ _) (by rw [vals_size, nm_Z6.len]; kernel_rfl) (by first | (rw [vals_size, vals_size, nm_Z6.len]; rfl) | rfl) vals_one ?_
       intro w2 qs2 hkeep hbg
       have hbe := ((Below.refl w1.heap.size w1).alloc (Nat.le_refl _) (.cells (vals .u64 Z6) 24)).trans hbg
       have Nxs := qx1.lt
       have qx2 := qx1.keep hbe
       have Nbs := qb1.lt
       have qb2 := qb1.keep hbe
       have Nos := qo1.lt
       have qo2 := qo1.keep hbe
       have Ms : S ≤ w1.heap.size := HSS.out _ hb1
       have hb2 := hb1.trans (hbe.mono (HSS.out _ hb1))
       clear hkeep hbg hbe hb1 qx1 qb1 qo1)
    | (have hq0 := hb0
       clear hq0
       go_at_call 24
       refine (P1.out _ (HG.out _ hb0)).mono ?_
       rintro e w1 ⟨rfl, hq⟩
       have qx1 := qx0.keep hq
       have qb1 := qb0.keep hq
       have qo1 := qo0.keep hq
       have hb1 := hb0.trans (hq.mono (HSS.out _ hb0))
       clear hq hb0 qx0 qb0 qo0)
    | (refine wpList_load_row rfl 24 (.tmp 2) rfl (S) rfl _ _ _ _ qx0.eq Tryd.underlying24 rfl (by rw [vals_size, hx.len]; kernel_rfl) ?_))
  refine wp_reads 5 1 (S + 2) (by kernel_rfl) (by kernel_rfl) (by rfl) (by kernel_rfl) (fun _ _ d _ _ h => by cases d <;> exact h) ?_
  simp only [List.take_succ_cons, List.take_zero]
  repeat ((first
    | refine take_loadw (by rfl) 24 (by rfl) (g := S) (n := 6) (by rfl) (t := 24) (xs := x) (fun w hw => hw.has qx5 (by omega)) Tryd.underlying24 rfl (by kernel_rfl) hx.len ?_
    | refine take_loadw (by rfl) 24 (by rfl) (g := S + 1) (n := 6) (by rfl) (t := 24) (xs := b) (fun w hw => hw.has qb5 (by omega)) Tryd.underlying24 rfl (by kernel_rfl) hb.len ?_
    | refine take_loadw (by rfl) 24 (by rfl) (g := w1.heap.size) (n := 6) (by rfl) (t := 24) (xs := Z6) (fun w hw => hw.has qs5 (by omega)) Tryd.underlying24 rfl (by kernel_rfl) nm_Z6.len ?_
    | refine take_loadw (by rfl) 24 (by rfl) (g := w4.heap.size) (n := 6) (by rfl) (t := 24) (xs := r) (fun w hw => hw.has qr5 (by omega)) Tryd.underlying24 rfl (by kernel_rfl) nr.len ?_
    | refine take_build (by rfl) (by rfl) (by refine build2 ?_ ?_ <;> (with_reducible first | exact Nm.fe _ | exact Nm.F2 _ | assumption | exact nm_one | exact nm_Z6 | (refine Nm.seg (m := 12) ?_ (by decide); assumption) | exact Nm.seg (m := 12) (Nm.F2 _) (by decide) | exact Nm.app2 (.fe _) (.fe _) | fail)) ?_
    | refine wpTake_cons (.inl ⟨by rfl, fun w hw => (by unfold Oper.quietAt; go_simp; (first | with_reducible refine pRed ?_ _ (HG.out _ (hb5.trans (hw.below (by first | omega | exact HSS.out _ hb5) (HSS.out _ hb5)))) | with_reducible refine pAdd ?_ ?_ _ (HG.out _ (hb5.trans (hw.below (by first | omega | exact HSS.out _ hb5) (HSS.out _ hb5)))) | with_reducible refine pSub ?_ ?_ _ (HG.out _ (hb5.trans (hw.below (by first | omega | exact HSS.out _ hb5) (HSS.out _ hb5)))) | with_reducible refine pMul ?_ ?_ _ (HG.out _ (hb5.trans (hw.below (by first | omega | exact HSS.out _ hb5) (HSS.out _ hb5)))) | with_reducible refine pNeg ?_ _ (HG.out _ (hb5.trans (hw.below (by first | omega | exact HSS.out _ hb5) (HSS.out _ hb5)))) | with_reducible refine lOther _ ?_ b NB.out _ _ (HD.out _ (hb5.trans (hw.below (by first | omega | exact HSS.out _ hb5) (HSS.out _ hb5)))) (hw.has qb5 (by omega))) <;> (with_reducible first | exact Nm.fe _ | exact Nm.F2 _ | assumption | exact nm_one | exact nm_Z6 | (refine Nm.seg (m := 12) ?_ (by decide); assumption) | exact Nm.seg (m := 12) (Nm.F2 _) (by decide) | exact Nm.app2 (.fe _) (.fe _) | fail))⟩) ?_
    | refine wpTake_cons (Steady.of_yields (Or.inl ⟨by rfl, fun w => (by first | (go_simp; done) | (go_simp; with_reducible rfl))⟩)) ?_); simp only [List.getElem_toArray, List.getElem_cons_zero, List.getElem_cons_succ, Act.put, List.setIfInBounds_toArray, List.set_cons_zero, List.set_cons_succ])
  refine wpTake_nil ?_
  refine tail_store (i := 5) (by rfl) (by kernel_rfl) (by kernel_rfl) (by rfl) 26 (.tmp 4) (.tmp 32) (by rfl) (by rfl) (S + 2) _ (by rfl) (by rfl) 26 _ qo5 (by rw [vals_size, (Nm.app2 (.fe _) nr).len]; kernel_rfl) (by rw [vals_size, vals_size, (Nm.app2 (.fe _) nr).len]; rfl) vals_one ?_
  intro w6 qo6 hbt
  have qx6 := hbt.has qx5 (by omega)
  have qb6 := hbt.has qb5 (by omega)
  have qs6 := hbt.has qs5 (by omega)
  have qr6 := hbt.has qr5 (by omega)
  have hb6 := hb5.trans (hbt.below (by omega) (HSS.out _ hb5))
  clear hbt hb5 qx5 qb5 qo5 qs5 qr5
  go_wp2
  refine bodyPost_ret (v := .agg (vals .u64 _)) (results_cell_row rfl _ _ (S + 2) _ _ _ _ rfl qo6.eq Tryd.underlying26 rfl (by rw [vals_size, (Nm.app2 (.fe _) nr).len]; kernel_rfl)) rfl ⟨ret_eq (congrArg (fun z => Value.agg (vals .u64 z)) (by rw [← hr9.out]; exact rh_no h9.out)), hb6⟩

set_option maxRecDepth 100000 in
set_option maxHeartbeats 4000000 in
theorem lRh (x : List Int) (hx : Nm 6 x) (b : List Int) (hb : Nm 6 b) (w : World) (hG : GlobD w) : Calls Tryd.prog 27 #[.agg (vals .u64 x), .agg (vals .u64 b)] w fun e w' => e = .returned (.agg (vals .u64 (F2 (rh (num x) (num b))))) ∧ Below w.heap.size w w' := by
  cases h : sq (num x)
  · exact lRh_no x hx b hb h w hG
  · exact lRh_yes x hx b hb h w hG

set_option maxRecDepth 100000 in
set_option maxHeartbeats 4000000 in
theorem lTry (x : List Int) (hx : Nm 6 x) (a : List Int) (ha : Nm 12 a) (ka : Nat) (r : List Int) (hr : F2 (rh (num x) (num (seg 6 6 a))) = r) (t : Bool) (ht : decide (F2 (gm (v2 r) (v2 r)) = F2 (v2 a)) = t) (w : World) (hG : GlobD w) (qa : Has w ka 26 (vals .u64 a)) : Calls Tryd.prog 26 #[.agg (vals .u64 x), .pointer (some ⟨ka, 0, none⟩)] w fun e w' => e = .returned (.tuple #[.agg (vals .u64 r), .bool t]) ∧ Below w.heap.size w w' := by
  have HT : Keep _ := ⟨ht⟩
  have P1 : Keep (∀ w : World, GlobD w → _) := ⟨fun w (hG : GlobD w) => lRh x hx (seg 6 6 a) (ha.seg (n := 6) (off := 6) (by decide)) w hG⟩
  have nr : Nm 12 r := hr ▸ .F2 _
  rw [hr] at P1
  clear ht hr
  obtain ⟨S, hS⟩ : ∃ S, w.heap.size = S := ⟨_, rfl⟩
  have Lo : Keep (Fp2.Z12.length = 12) := ⟨rfl⟩
  have qx0 : Has ((w.alloc (.cells (vals .u64 x) 24)).alloc (.cells (vals .u64 Fp2.Z12) 26)) (S) 24 (vals .u64 x) := ((Has.new' _ hS.symm _ _).alloc _)
  have qo0 : Has ((w.alloc (.cells (vals .u64 x) 24)).alloc (.cells (vals .u64 Fp2.Z12) 26)) (S + 1) 26 (vals .u64 Fp2.Z12) := (Has.new' _ (by simp only [World.size_alloc, hS]) _ _)
  have hb0 : Below S w ((w.alloc (.cells (vals .u64 x) 24)).alloc (.cells (vals .u64 Fp2.Z12) 26)) := by rw [← hS]; exact (((Below.refl _ _).alloc (Nat.le_refl _) _).alloc (by simp <;> omega) _)
  have hsz0 : ((w.alloc (.cells (vals .u64 x) 24)).alloc (.cells (vals .u64 Fp2.Z12) 26)).heap.size = S + 2 := by simp only [World.size_alloc, hS]
  have HSS : Keep (∀ x : World, Below S w x → S ≤ x.heap.size) := ⟨fun x hb => Nat.le_trans (by omega) hb.size⟩
  have HD : Keep (∀ x : World, Below S w x → GlobD x) := ⟨fun x hb => hG.keep (by rw [hS]; exact hb)⟩
  have HG : Keep (∀ x : World, Below S w x → Glob x) := ⟨fun x hb => (HD.out x hb).toGlob⟩
  clear hG
  have qa0 : Has ((w.alloc (.cells (vals .u64 x) 24)).alloc (.cells (vals .u64 Fp2.Z12) 26)) ka 26 (vals .u64 a) := ((qa.alloc _).alloc _)
  have Oa : ka < S := hS ▸ qa.lt
  clear qa
  rw [hS]
  go_enter Tryd.func26, Tryd.ntmps26
  go_wp2_with (first
    | (refine store_abs2 (by rfl) 26 (.tmp 5) (.tmp 9) (by rfl) (by rfl) (w1.heap.size) (vals .u64 r) (by rfl) (by rfl) 26 (vals .u64 Fp2.Z12) (Has.new' _ rfl _ _) (by rw [vals_size, nr.len]; kernel_rfl) (by first | (rw [vals_size, vals_size, nr.len]; rfl) | rfl) vals_one ?_
       intro w2 qr2 hkeep hbg
       have hbe := ((Below.refl w1.heap.size w1).alloc (Nat.le_refl _) (.cells (vals .u64 Fp2.Z12) 26)).trans hbg
       have Nxr := qx1.lt
       have qx2 := qx1.keep hbe
       have Nor := qo1.lt
       have qo2 := qo1.keep hbe
       have Nar := qa1.lt
       have qa2 := qa1.keep hbe
       have Mr : S ≤ w1.heap.size := HSS.out _ hb1
       have hb2 := hb1.trans (hbe.mono (HSS.out _ hb1))
       clear hkeep hbg hbe hb1 qx1 qo1 qa1)
    | (have hq0 := hb0
       clear hq0
       go_at_call 27
       refine (P1.out _ (HD.out _ hb0)).mono ?_
       rintro e w1 ⟨rfl, hq⟩
       have qx1 := qx0.keep hq
       have qo1 := qo0.keep hq
       have qa1 := qa0.keep hq
       have hb1 := hb0.trans (hq.mono (HSS.out _ hb0))
       clear hq hb0 qx0 qo0 qa0)
    | (refine load_seg (by rfl) 24 (.tmp 7) (by rfl) (ka) 6 6 (by rfl) 26 .u64 a (seg 6 6 a) _ qa0 Tryd.underlying24 rfl (by kernel_rfl) rfl (by rw [ha.len]; decide) ?_)
    | (refine wpList_load_row rfl 24 (.tmp 2) rfl (S) rfl _ _ _ _ qx0.eq Tryd.underlying24 rfl (by rw [vals_size, hx.len]; kernel_rfl) ?_))
  refine wp_reads 7 2 (S + 1) (by kernel_rfl) (by kernel_rfl) (by rfl) (by kernel_rfl) (fun _ _ d _ _ h => by cases d <;> exact h) ?_
  simp only [List.take_succ_cons, List.take_zero]
  repeat ((first
    | refine take_eql (by rfl) (by rfl) (by rfl) (by rfl) eqok2 gd2 (Nm.len (n := 12) (Nm.F2 _)) (Nm.len (n := 12) (Nm.F2 _)) HT.out ?_
    | refine take_loadw (by rfl) 24 (by rfl) (g := S) (n := 6) (by rfl) (t := 24) (xs := x) (fun w hw => hw.has qx2 (by omega)) Tryd.underlying24 rfl (by kernel_rfl) hx.len ?_
    | refine take_load (by rfl) 24 (by rfl) (g := ka) (n := 6) (by rfl) (t := 26) (xs := a) (fun w hw => hw.has qa2 (by omega)) Tryd.underlying24 rfl (by kernel_rfl) (by rw [ha.len]; decide) ?_
    | refine take_loadw (by rfl) 26 (by rfl) (g := ka) (n := 12) (by rfl) (t := 26) (xs := a) (fun w hw => hw.has qa2 (by omega)) Tryd.underlying26 rfl (by kernel_rfl) ha.len ?_
    | refine take_load (by rfl) 24 (by rfl) (g := w1.heap.size) (n := 6) (by rfl) (t := 26) (xs := r) (fun w hw => hw.has qr2 (by omega)) Tryd.underlying24 rfl (by kernel_rfl) (by rw [nr.len]; decide) ?_
    | refine take_loadw (by rfl) 26 (by rfl) (g := w1.heap.size) (n := 12) (by rfl) (t := 26) (xs := r) (fun w hw => hw.has qr2 (by omega)) Tryd.underlying26 rfl (by kernel_rfl) nr.len ?_
    | refine wpTake_cons (.inl ⟨by rfl, fun w hw => (by unfold Oper.quietAt; go_simp; (first | with_reducible refine lMul2 _ ?_ _ ?_ _ (HG.out _ (hb2.trans (hw.below (by first | omega | exact HSS.out _ hb2) (HSS.out _ hb2)))) | with_reducible refine lRed2 _ ?_ _ (HG.out _ (hb2.trans (hw.below (by first | omega | exact HSS.out _ hb2) (HSS.out _ hb2))))) <;> (with_reducible first | exact Nm.fe _ | exact Nm.F2 _ | assumption | exact nm_one | exact nm_Z6 | (refine Nm.seg (m := 12) ?_ (by decide); assumption) | exact Nm.seg (m := 12) (Nm.F2 _) (by decide) | exact Nm.app2 (.fe _) (.fe _) | fail))⟩) ?_
    | refine wpTake_cons (Steady.of_yields (Or.inl ⟨by rfl, fun w => (by first | (go_simp; done) | (go_simp; with_reducible rfl))⟩)) ?_); simp only [List.getElem_toArray, List.getElem_cons_zero, List.getElem_cons_succ, Act.put, List.setIfInBounds_toArray, List.set_cons_zero, List.set_cons_succ])
  refine wpTake_nil ?_
  refine tail_store_more (i := 7) (by rfl) (by kernel_rfl) (by rfl) 26 (.tmp 3) (.tmp 10) (by rfl) (by rfl) (S + 1) (vals .u64 r) (by rfl) (by rfl) 26 _ qo2 (by rw [vals_size, nr.len]; kernel_rfl) (by rw [vals_size, vals_size, nr.len]; rfl) vals_one ?_
  intro w3 qo3 hbt
  refine wpAnyU_take (i := 8) (v := .bool t) (fun _ _ h hb => h.then hb) (by rfl) (by kernel_rfl) (by kernel_rfl) (by kernel_rfl) (fun _ _ d _ _ h => by cases d <;> exact h) hbt (Steady.of_yields (Or.inl ⟨by rfl, fun w => (by first | (go_simp; done) | (go_simp; with_reducible rfl))⟩)) ?_
  simp only [List.getElem_toArray, List.getElem_cons_zero, List.getElem_cons_succ, Act.put, List.setIfInBounds_toArray, List.set_cons_zero, List.set_cons_succ]
  refine wpAnyU_end (by kernel_rfl) (fun w4 hq => ?_)
  have qo4 := qo3.keep hq
  have hb4 := hb2.trans ((hbt.then hq).below (by omega) (HSS.out _ hb2))
  go_wp2
  refine bodyPost_ret (v := .tuple #[.agg (vals .u64 r), .bool t]) (results_row_tmp rfl _ _ (S + 1) _ _ _ _ _ rfl rfl qo4.eq Tryd.underlying26 rfl (by rw [vals_size, nr.len]; kernel_rfl)) rfl ⟨rfl, hb4⟩

set_option maxRecDepth 100000 in
set_option maxHeartbeats 4000000 in
theorem lWs_0 (a : List Int) (ha : Nm 12 a) (h : sg2 (v2 a) = 0) (w : World) (hG : Glob w) : Calls Tryd.prog 30 #[.agg (vals .u64 a)] w fun e w' => e = .returned (.agg (vals .u64 a)) ∧ Below w.heap.size w w' := by
  have P1 : Keep (∀ w : World, Glob w → _) := ⟨fun w (hG : Glob w) => gSg a ha w hG⟩
  rw [h] at P1
  clear h
  obtain ⟨S, hS⟩ : ∃ S, w.heap.size = S := ⟨_, rfl⟩
  have Lo : Keep (Fp2.Z12.length = 12) := ⟨rfl⟩
  have qa0 : Has ((w.alloc (.cells (vals .u64 a) 26)).alloc (.cells (vals .u64 Fp2.Z12) 26)) (S) 26 (vals .u64 a) := ((Has.new' _ hS.symm _ _).alloc _)
  have qo0 : Has ((w.alloc (.cells (vals .u64 a) 26)).alloc (.cells (vals .u64 Fp2.Z12) 26)) (S + 1) 26 (vals .u64 Fp2.Z12) := (Has.new' _ (by simp only [World.size_alloc, hS]) _ _)
  have hb0 : Below S w ((w.alloc (.cells (vals .u64 a) 26)).alloc (.cells (vals .u64 Fp2.Z12) 26)) := by rw [← hS]; exact (((Below.refl _ _).alloc (Nat.le_refl _) _).alloc (by simp <;> omega) _)
  have hsz0 : ((w.alloc (.cells (vals .u64 a) 26)).alloc (.cells (vals .u64 Fp2.Z12) 26)).heap.size = S + 2 := by simp only [World.size_alloc, hS]
  have HSS : Keep (∀ x : World, Below S w x → S ≤ x.heap.size) := ⟨fun x hb => Nat.le_trans (by omega) hb.size⟩
  have HG : Keep (∀ x : World, Below S w x → Glob x) := ⟨fun x hb => hG.keep (by rw [hS]; exact hb)⟩
  clear hG
  rw [hS]
  go_enter Tryd.func30, Tryd.ntmps30
  go_wp2_with (first
    | (refine store_abs2 (by rfl) 26 (.tmp 2) (.tmp 6) (by rfl) (by rfl) (S + 1) (vals .u64 a) (by rfl) (by rfl) 26 _ qo1 (by rw [vals_size, ha.len]; kernel_rfl) (by first | rw [vals_size, vals_size, ha.len, Lo.out] | rfl) vals_one ?_
       intro w2 qo2 hkeep hbg
       have qa2 := hkeep _ _ _ qa1 (by omega)
       have hb2 := hb1.trans (hbg.mono (by omega))
       clear hkeep hbg hb1 qa1 qo1)
    | (refine wpList_load_row rfl 26 (.tmp 1) rfl (S) rfl _ _ _ _ qa1.eq Tryd.underlying26 rfl (by rw [vals_size, ha.len]; kernel_rfl) ?_)
    | (have hq0 := hb0
       clear hq0
       go_at_call 12
       refine (P1.out _ (HG.out _ hb0)).mono ?_
       rintro e w1 ⟨rfl, hq⟩
       have qa1 := qa0.keep hq
       have qo1 := qo0.keep hq
       have hb1 := hb0.trans (hq.mono (HSS.out _ hb0))
       clear hq hb0 qa0 qo0)
    | (refine wpList_load_row rfl 26 (.tmp 1) rfl (S) rfl _ _ _ _ qa0.eq Tryd.underlying26 rfl (by rw [vals_size, ha.len]; kernel_rfl) ?_))
  refine bodyPost_ret (v := .agg (vals .u64 a)) (results_cell_row rfl _ _ (S + 1) _ _ _ _ rfl qo2.eq Tryd.underlying26 rfl (by rw [vals_size, ha.len]; kernel_rfl)) rfl ⟨rfl, hb2⟩

set_option maxRecDepth 100000 in
set_option maxHeartbeats 4000000 in
theorem lWs_1 (a : List Int) (ha : Nm 12 a) (h : sg2 (v2 a) = 1) (w : World) (hG : Glob w) : Calls Tryd.prog 30 #[.agg (vals .u64 a)] w fun e w' => e = .returned (.agg (vals .u64 (F2 (gn (v2 a))))) ∧ Below w.heap.size w w' := by
  have P1 : Keep (∀ w : World, Glob w → _) := ⟨fun w (hG : Glob w) => gSg a ha w hG⟩
  rw [h] at P1
  have P2 : Keep (∀ w : World, Glob w → _) := ⟨fun w (hG : Glob w) => lNeg2 a ha w hG⟩
  clear h
  obtain ⟨S, hS⟩ : ∃ S, w.heap.size = S := ⟨_, rfl⟩
  have Lo : Keep (Fp2.Z12.length = 12) := ⟨rfl⟩
  have qa0 : Has ((w.alloc (.cells (vals .u64 a) 26)).alloc (.cells (vals .u64 Fp2.Z12) 26)) (S) 26 (vals .u64 a) := ((Has.new' _ hS.symm _ _).alloc _)
  have qo0 : Has ((w.alloc (.cells (vals .u64 a) 26)).alloc (.cells (vals .u64 Fp2.Z12) 26)) (S + 1) 26 (vals .u64 Fp2.Z12) := (Has.new' _ (by simp only [World.size_alloc, hS]) _ _)
  have hb0 : Below S w ((w.alloc (.cells (vals .u64 a) 26)).alloc (.cells (vals .u64 Fp2.Z12) 26)) := by rw [← hS]; exact (((Below.refl _ _).alloc (Nat.le_refl _) _).alloc (by simp <;> omega) _)
  have hsz0 : ((w.alloc (.cells (vals .u64 a) 26)).alloc (.cells (vals .u64 Fp2.Z12) 26)).heap.size = S + 2 := by simp only [World.size_alloc, hS]
  have HSS : Keep (∀ x : World, Below S w x → S ≤ x.heap.size) := ⟨fun x hb => Nat.le_trans (by omega) hb.size⟩
  have HG : Keep (∀ x : World, Below S w x → Glob x) := ⟨fun x hb => hG.keep (by rw [hS]; exact hb)⟩
  clear hG
  rw [hS]
  go_enter Tryd.func30, Tryd.ntmps30
  go_wp2_with (first
    | (refine store_abs2 (by rfl) 26 (.tmp 2) (.tmp 8) (by rfl) (by rfl) (S + 1) (vals .u64 (F2 (gn (v2 a)))) (by rfl) (by rfl) 26 _ qo2 (by rw [vals_size, (Nm.F2 _).len]; kernel_rfl) (by first | rw [vals_size, vals_size, (Nm.F2 _).len, Lo.out] | rfl) vals_one ?_
       intro w3 qo3 hkeep hbg
       have qa3 := hkeep _ _ _ qa2 (by omega)
       have hb3 := hb2.trans (hbg.mono (by omega))
       clear hkeep hbg hb2 qa2 qo2)
    | (have hq0 := hb1
       clear hq0
       go_at_call 18
       refine (P2.out _ (HG.out _ hb1)).mono ?_
       rintro e w2 ⟨rfl, hq⟩
       have qa2 := qa1.keep hq
       have qo2 := qo1.keep hq
       have hb2 := hb1.trans (hq.mono (HSS.out _ hb1))
       clear hq hb1 qa1 qo1)
    | (refine wpList_load_row rfl 26 (.tmp 1) rfl (S) rfl _ _ _ _ qa1.eq Tryd.underlying26 rfl (by rw [vals_size, ha.len]; kernel_rfl) ?_)
    | (have hq0 := hb0
       clear hq0
       go_at_call 12
       refine (P1.out _ (HG.out _ hb0)).mono ?_
       rintro e w1 ⟨rfl, hq⟩
       have qa1 := qa0.keep hq
       have qo1 := qo0.keep hq
       have hb1 := hb0.trans (hq.mono (HSS.out _ hb0))
       clear hq hb0 qa0 qo0)
    | (refine wpList_load_row rfl 26 (.tmp 1) rfl (S) rfl _ _ _ _ qa0.eq Tryd.underlying26 rfl (by rw [vals_size, ha.len]; kernel_rfl) ?_))
  refine bodyPost_ret (v := .agg (vals .u64 (F2 (gn (v2 a))))) (results_cell_row rfl _ _ (S + 1) _ _ _ _ rfl qo3.eq Tryd.underlying26 rfl (by rw [vals_size, (Nm.F2 _).len]; kernel_rfl)) rfl ⟨rfl, hb3⟩

set_option maxRecDepth 100000 in
set_option maxHeartbeats 4000000 in
theorem lWs (p : G) (w : World) (hG : Glob w) : Calls Tryd.prog 30 #[.agg (vals .u64 (F2 p))] w fun e w' => e = .returned (.agg (vals .u64 (ev2 p))) ∧ Below w.heap.size w w' := by
  rw [← ev2_F2]
  rcases sg2_or (v2 (F2 p)) with h | h
  · rw [ev2, if_pos h, F2_F2]
    exact lWs_0 (F2 p) (.F2 _) h w hG
  · rw [ev2, if_neg (by rw [h]; decide)]
    exact lWs_1 (F2 p) (.F2 _) h w hG

set_option maxRecDepth 100000 in
set_option maxHeartbeats 4000000 in
theorem lSq_no (a : List Int) (ha : Nm 12 a) (h : gsq (v2 a) = false) (w : World) (hG : GlobD w) : Calls Tryd.prog 9 #[.agg (vals .u64 a)] w fun e w' => e = .returned (.tuple #[.agg (vals .u64 Fp2.Z12), .bool false]) ∧ Below w.heap.size w w' := by
  have P1 : Keep (∀ w : World, Glob w → _) := ⟨fun w (hG : Glob w) => pSqrt (.fe (gnorm (v2 a))) w hG⟩
  have hz : rwd (gnorm (v2 a)) = Z6 := by rw [rwd, if_neg (by rw [show sq (gnorm (v2 a)) = false from h]; decide)]
  rw [sq_fe, rwd_fe, hz, show sq (gnorm (v2 a)) = false from h] at P1
  clear h hz
  obtain ⟨S, hS⟩ : ∃ S, w.heap.size = S := ⟨_, rfl⟩
  have Lo : Keep (Fp2.Z12.length = 12) := ⟨rfl⟩
  have qa0 : Has ((w.alloc (.cells (vals .u64 a) 26)).alloc (.cells (vals .u64 Fp2.Z12) 26)) (S) 26 (vals .u64 a) := ((Has.new' _ hS.symm _ _).alloc _)
  have qo0 : Has ((w.alloc (.cells (vals .u64 a) 26)).alloc (.cells (vals .u64 Fp2.Z12) 26)) (S + 1) 26 (vals .u64 Fp2.Z12) := (Has.new' _ (by simp only [World.size_alloc, hS]) _ _)
  have hb0 : Below S w ((w.alloc (.cells (vals .u64 a) 26)).alloc (.cells (vals .u64 Fp2.Z12) 26)) := by rw [← hS]; exact (((Below.refl _ _).alloc (Nat.le_refl _) _).alloc (by simp <;> omega) _)
  have hsz0 : ((w.alloc (.cells (vals .u64 a) 26)).alloc (.cells (vals .u64 Fp2.Z12) 26)).heap.size = S + 2 := by simp only [World.size_alloc, hS]
  have HSS : Keep (∀ x : World, Below S w x → S ≤ x.heap.size) := ⟨fun x hb => Nat.le_trans (by omega) hb.size⟩
  have HD : Keep (∀ x : World, Below S w x → GlobD x) := ⟨fun x hb => hG.keep (by rw [hS]; exact hb)⟩
  have HG : Keep (∀ x : World, Below S w x → Glob x) := ⟨fun x hb => (HD.out x hb).toGlob⟩
  clear hG
  rw [hS]
  go_enter Tryd.func9, Tryd.ntmps9
  go_wp2_with (first
    | (refine store_abs2 (by rfl) 26 (.tmp 2) (.tmp 19) (by rfl) (by rfl) (S + 1) (vals .u64 Fp2.Z12) (by rfl) (by rfl) 26 _ qo3 (by rw [vals_size, Lo.out]; kernel_rfl) (by first | rw [vals_size, vals_size, Lo.out, Lo.out] | rfl) vals_one ?_
       intro w4 qo4 hkeep hbg
       have qa4 := hkeep _ _ _ qa3 (by omega)
       have qn4 := hkeep _ _ _ qn3 (by omega)
       have hb4 := hb3.trans (hbg.mono (by omega))
       clear hkeep hbg hb3 qa3 qo3 qn3)
    | (refine wpList_buildTo (by rfl) 26 #[] (by rfl) (some 19) (by rfl) (vals .u64 Fp2.Z12) (by kernel_rfl) ?_)
    | (refine store_abs2 (by rfl) 24 (.tmp 4) (.tmp 15) (by rfl) (by rfl) (w2.heap.size) (vals .u64 Z6) (by rfl) (by rfl) 24 (vals .u64 Z6) (Has.new' _ rfl _ _) (by rw [vals_size, nm_Z6.len]; kernel_rfl) (by first | (rw [vals_size, vals_size, nm_Z6.len]; rfl) | rfl) vals_one ?_
       intro w3 qn3 hkeep hbg
       have hbe := ((Below.refl w2.heap.size w2).alloc (Nat.le_refl _) (.cells (vals .u64 Z6) 24)).trans hbg
       have Nan := qa2.lt
       have qa3 := qa2.keep hbe
       have Non := qo2.lt
       have qo3 := qo2.keep hbe
       have Mn : S ≤ w2.heap.size := HSS.out _ hb2
       have hb3 := hb2.trans (hbe.mono (HSS.out _ hb2))
       clear hkeep hbg hbe hb2 qa2 qo2)
    | (have hq0 := hb1
       clear hq0
       go_at_call 24
       refine (P1.out _ (HG.out _ hb1)).mono ?_
       rintro e w2 ⟨rfl, hq⟩
       have qa2 := qa1.keep hq
       have qo2 := qo1.keep hq
       have hb2 := hb1.trans (hq.mono (HSS.out _ hb1))
       clear hq hb1 qa1 qo1)
    | (have hq0 := hb0
       clear hq0
       go_at_call 25
       refine (lNorm a ha _ (HG.out _ hb0)).mono ?_
       rintro e w1 ⟨rfl, hq⟩
       have qa1 := qa0.keep hq
       have qo1 := qo0.keep hq
       have hb1 := hb0.trans (hq.mono (HSS.out _ hb0))
       clear hq hb0 qa0 qo0)
    | (refine wpList_load_row rfl 26 (.tmp 1) rfl (S) rfl _ _ _ _ qa0.eq Tryd.underlying26 rfl (by rw [vals_size, ha.len]; kernel_rfl) ?_))
  refine bodyPost_ret (v := .tuple #[.agg (vals .u64 Fp2.Z12), .bool false]) (results_row_tmp rfl _ _ (S + 1) _ _ _ _ _ rfl rfl qo4.eq Tryd.underlying26 rfl (by rw [vals_size, Lo.out]; kernel_rfl)) rfl ⟨rfl, hb4⟩

set_option maxRecDepth 100000 in
set_option maxHeartbeats 4000000 in
theorem lSq_yes (a : List Int) (ha : Nm 12 a) (h : gsq (v2 a) = true) (w : World) (hG : GlobD w) : Calls Tryd.prog 9 #[.agg (vals .u64 a)] w fun e w' => e = .returned (.tuple #[.agg (vals .u64 (root2 (v2 a))), .bool true]) ∧ Below w.heap.size w w' := by
  obtain ⟨V, hV⟩ : ∃ o, root2 (v2 a) = o := ⟨_, rfl⟩
  have nV : Nm 12 V := hV ▸ root2_nm _
  obtain ⟨n, hn⟩ : ∃ n, rwd (gnorm (v2 a)) = n := ⟨_, rfl⟩
  have nn : Nm 6 n := hn ▸ rwd_nm _
  have P1 : Keep (∀ w : World, Glob w → _) := ⟨fun w (hG : Glob w) => pSqrt (.fe (gnorm (v2 a))) w hG⟩
  rw [sq_fe, rwd_fe, hn, show sq (gnorm (v2 a)) = true from h] at P1
  have hmf : ∀ (fn : Fn) (first cap : Array Value) (w : World), (Instr.makeFunc fn first cap).run Tryd.prog w = .ok (.func fn first cap) w := fun _ _ _ _ => rfl
  obtain ⟨lA, hlA⟩ : ∃ l, Fp.fe (hv (num (Fp.fe (num (seg 0 6 a) + num n)))) = l := ⟨_, rfl⟩
  have nlA : Nm 6 lA := hlA ▸ .fe _
  obtain ⟨pA, hpA'⟩ : ∃ p, rh (num lA) (num (seg 6 6 a)) = p := ⟨_, rfl⟩
  obtain ⟨rA, hrA'⟩ : ∃ r, F2 pA = r := ⟨_, rfl⟩
  have nrA : Nm 12 rA := hrA' ▸ .F2 _
  have hpA : Keep _ := ⟨hrA'⟩
  have hrA : Keep (F2 (rh (num lA) (num (seg 6 6 a))) = rA) := ⟨by rw [hpA', hrA']⟩
  have hqA : Fp2.E2 pA (rh (hA (v2 a)) (v2 a).2) := by
    rw [← hpA', ← hlA, ← hn]
    refine rh_congr ?_ rfl
    rw [nfe]
    exact hv_congr ((nfe _).trans rfl)
  have hsA : F2 (gm (v2 rA) (v2 rA)) = F2 (gm (rh (hA (v2 a)) (v2 a).2) (rh (hA (v2 a)) (v2 a).2)) := by
    rw [← hrA']
    exact F2_eq (gm_congr ((v2_F2 _).trans hqA) ((v2_F2 _).trans hqA))
  have HVA : Keep (F2 (gm (v2 rA) (v2 rA)) = F2 (v2 a) → V = ev2 pA) := ⟨fun e => by
    rw [← hV, ev2_congr hqA]
    rw [hsA] at e
    exact root2_of (F2_inj e)⟩
  have HA : Keep _ := ⟨hlA⟩
  obtain ⟨lB, hlB⟩ : ∃ l, Fp.fe (hv (num (Fp.fe (num (seg 0 6 a) - num n)))) = l := ⟨_, rfl⟩
  have nlB : Nm 6 lB := hlB ▸ .fe _
  obtain ⟨pB, hpB'⟩ : ∃ p, rh (num lB) (num (seg 6 6 a)) = p := ⟨_, rfl⟩
  obtain ⟨rB, hrB'⟩ : ∃ r, F2 pB = r := ⟨_, rfl⟩
  have nrB : Nm 12 rB := hrB' ▸ .F2 _
  have hpB : Keep _ := ⟨hrB'⟩
  have hrB : Keep (F2 (rh (num lB) (num (seg 6 6 a))) = rB) := ⟨by rw [hpB', hrB']⟩
  have hqB : Fp2.E2 pB (rh (hB (v2 a)) (v2 a).2) := by
    rw [← hpB', ← hlB, ← hn]
    refine rh_congr ?_ rfl
    rw [nfe]
    exact hv_congr ((nfe _).trans rfl)
  have hsB : F2 (gm (v2 rB) (v2 rB)) = F2 (gm (rh (hB (v2 a)) (v2 a).2) (rh (hB (v2 a)) (v2 a).2)) := by
    rw [← hrB']
    exact F2_eq (gm_congr ((v2_F2 _).trans hqB) ((v2_F2 _).trans hqB))
  have HVB : Keep (F2 (gm (v2 rB) (v2 rB)) = F2 (v2 a) → V = ev2 pB) := ⟨fun e => by
    rw [← hV, ev2_congr hqB]
    rw [hsB] at e
    exact root2_of (F2_inj e)⟩
  have HB : Keep _ := ⟨hlB⟩
  have HAB : Keep (¬ F2 (gm (v2 rA) (v2 rA)) = F2 (v2 a) → F2 (gm (v2 rB) (v2 rB)) = F2 (v2 a)) := ⟨fun hne => by
    rw [hsB]
    refine F2_eq (root_AB h (fun e => hne ?_))
    rw [hsA]
    exact F2_eq e⟩
  rw [hV]
  clear hV hn h hsA hsB hqA hqB hlA hlB hpA' hpB' hrA' hrB'
  obtain ⟨S, hS⟩ : ∃ S, w.heap.size = S := ⟨_, rfl⟩
  have Lo : Keep (Fp2.Z12.length = 12) := ⟨rfl⟩
  have qa0 : Has ((w.alloc (.cells (vals .u64 a) 26)).alloc (.cells (vals .u64 Fp2.Z12) 26)) (S) 26 (vals .u64 a) := ((Has.new' _ hS.symm _ _).alloc _)
  have qo0 : Has ((w.alloc (.cells (vals .u64 a) 26)).alloc (.cells (vals .u64 Fp2.Z12) 26)) (S + 1) 26 (vals .u64 Fp2.Z12) := (Has.new' _ (by simp only [World.size_alloc, hS]) _ _)
  have hb0 : Below S w ((w.alloc (.cells (vals .u64 a) 26)).alloc (.cells (vals .u64 Fp2.Z12) 26)) := by rw [← hS]; exact (((Below.refl _ _).alloc (Nat.le_refl _) _).alloc (by simp <;> omega) _)
  have hsz0 : ((w.alloc (.cells (vals .u64 a) 26)).alloc (.cells (vals .u64 Fp2.Z12) 26)).heap.size = S + 2 := by simp only [World.size_alloc, hS]
  have HSS : Keep (∀ x : World, Below S w x → S ≤ x.heap.size) := ⟨fun x hb => Nat.le_trans (by omega) hb.size⟩
  have HD : Keep (∀ x : World, Below S w x → GlobD x) := ⟨fun x hb => hG.keep (by rw [hS]; exact hb)⟩
  have HG : Keep (∀ x : World, Below S w x → Glob x) := ⟨fun x hb => (HD.out x hb).toGlob⟩
  clear hG
  rw [hS]
  go_enter Tryd.func9, Tryd.ntmps9
  go_wp2_with (first
    | (refine store_abs2 (by rfl) 24 (.tmp 4) (.tmp 15) (by rfl) (by rfl) (w2.heap.size) (vals .u64 n) (by rfl) (by rfl) 24 (vals .u64 Z6) (Has.new' _ rfl _ _) (by rw [vals_size, nn.len]; kernel_rfl) (by first | (rw [vals_size, vals_size, nn.len]; rfl) | rfl) vals_one ?_
       intro w3 qn3 hkeep hbg
       have hbe := ((Below.refl w2.heap.size w2).alloc (Nat.le_refl _) (.cells (vals .u64 Z6) 24)).trans hbg
       have Nan := qa2.lt
       have qa3 := qa2.keep hbe
       have Non := qo2.lt
       have qo3 := qo2.keep hbe
       have Mn : S ≤ w2.heap.size := HSS.out _ hb2
       have hb3 := hb2.trans (hbe.mono (HSS.out _ hb2))
       clear hkeep hbg hbe hb2 qa2 qo2)
    | (have hq0 := hb1
       clear hq0
       go_at_call 24
       refine (P1.out _ (HG.out _ hb1)).mono ?_
       rintro e w2 ⟨rfl, hq⟩
       have qa2 := qa1.keep hq
       have qo2 := qo1.keep hq
       have hb2 := hb1.trans (hq.mono (HSS.out _ hb1))
       clear hq hb1 qa1 qo1)
    | (have hq0 := hb0
       clear hq0
       go_at_call 25
       refine (lNorm a ha _ (HG.out _ hb0)).mono ?_
       rintro e w1 ⟨rfl, hq⟩
       have qa1 := qa0.keep hq
       have qo1 := qo0.keep hq
       have hb1 := hb0.trans (hq.mono (HSS.out _ hb0))
       clear hq hb0 qa0 qo0)
    | (refine wpList_load_row rfl 26 (.tmp 1) rfl (S) rfl _ _ _ _ qa0.eq Tryd.underlying26 rfl (by rw [vals_size, ha.len]; kernel_rfl) ?_))
  refine wp_reads 12 0 w3.heap.size (by kernel_rfl) (by kernel_rfl) (by rfl) (by kernel_rfl) (fun _ _ d _ _ h => by cases d <;> exact h) ?_
  simp only [List.take_succ_cons, List.take_zero]
  repeat ((first
    | refine take_load (by rfl) 24 (by rfl) (g := S) (n := 6) (by rfl) (t := 26) (xs := a) (fun w hw => hw.has qa3 (Nat.ne_of_lt qa3.lt)) Tryd.underlying24 rfl (by kernel_rfl) (by rw [ha.len]; decide) ?_
    | refine take_loadw (by rfl) 26 (by rfl) (g := S) (n := 12) (by rfl) (t := 26) (xs := a) (fun w hw => hw.has qa3 (Nat.ne_of_lt qa3.lt)) Tryd.underlying26 rfl (by kernel_rfl) ha.len ?_
    | refine take_load (by rfl) 24 (by rfl) (g := S + 1) (n := 6) (by rfl) (t := 26) (xs := Fp2.Z12) (fun w hw => hw.has qo3 (Nat.ne_of_lt qo3.lt)) Tryd.underlying24 rfl (by kernel_rfl) (by rw [Lo.out]; decide) ?_
    | refine take_loadw (by rfl) 26 (by rfl) (g := S + 1) (n := 12) (by rfl) (t := 26) (xs := Fp2.Z12) (fun w hw => hw.has qo3 (Nat.ne_of_lt qo3.lt)) Tryd.underlying26 rfl (by kernel_rfl) Lo.out ?_
    | refine take_loadw (by rfl) 24 (by rfl) (g := w2.heap.size) (n := 6) (by rfl) (t := 24) (xs := n) (fun w hw => hw.has qn3 (Nat.ne_of_lt qn3.lt)) Tryd.underlying24 rfl (by kernel_rfl) nn.len ?_
    | refine take_build (by rfl) (by rfl) (by refine build22 ?_ ?_ <;> (with_reducible first | exact Nm.fe _ | exact Nm.F2 _ | assumption | exact nm_one | exact nm_Z6 | (refine Nm.seg (m := 12) ?_ (by decide); assumption) | exact Nm.seg (m := 12) (Nm.F2 _) (by decide) | exact Nm.app2 (.fe _) (.fe _) | fail)) ?_
    | refine wpTake_cons (.inl ⟨by rfl, fun w hw => (by unfold Oper.quietAt; go_simp; (first | with_reducible refine pAdd ?_ ?_ _ (HG.out _ (hb3.trans (hw.below (by first | omega | exact HSS.out _ hb3) (HSS.out _ hb3)))) | with_reducible refine pSub ?_ ?_ _ (HG.out _ (hb3.trans (hw.below (by first | omega | exact HSS.out _ hb3) (HSS.out _ hb3)))) | with_reducible refine lHalf _ ?_ _ (HG.out _ (hb3.trans (hw.below (by first | omega | exact HSS.out _ hb3) (HSS.out _ hb3))))) <;> (with_reducible first | exact Nm.fe _ | exact Nm.F2 _ | assumption | exact nm_one | exact nm_Z6 | (refine Nm.seg (m := 12) ?_ (by decide); assumption) | exact Nm.seg (m := 12) (Nm.F2 _) (by decide) | exact Nm.app2 (.fe _) (.fe _) | fail))⟩) ?_
    | refine wpTake_cons (Steady.of_yields (Or.inl ⟨by rfl, fun w => (by first | (go_simp; done) | (go_simp; with_reducible rfl))⟩)) ?_); simp only [List.getElem_toArray, List.getElem_cons_zero, List.getElem_cons_succ, Act.put, List.setIfInBounds_toArray, List.set_cons_zero, List.set_cons_succ])
  refine wpTake_nil ?_
  refine wpAnyU_end (by kernel_rfl) (fun w4 hq0 => ?_)
  have hq := (drawn_below w3).trans hq0
  have qa4 := qa3.keep hq
  have qo4 := qo3.keep hq
  have qn4 := qn3.keep hq
  have hb4 := hb3.trans (hq.mono (HSS.out _ hb3))
  clear hq0 hq hb3 qa3 qo3 qn3
  go_wp2
  rw [HA.out, HB.out]
  go_loopg [32] 2 (fun (gk : Nat) vi w20 => ∃ k : Nat, k + gk = 2 ∧ vi = .int .i64 (k : Int) ∧ (k = 0 ∨ k = 1 ∧ Keep (F2 (gm (v2 rB) (v2 rB)) = F2 (v2 a))) ∧ Has w20 S 26 (vals .u64 a) ∧ Has w20 (S + 1) 26 (vals .u64 Fp2.Z12) ∧ Below S w w20)
  case atStart => exact ⟨0, rfl, rfl, .inl rfl, qa4, qo4, hb4⟩
  case round =>
    clear qa4 qo4 qn4 hb4
    obtain ⟨k, hk, rfl, hor, qa20, qo20, hb20⟩ := hrel
    rcases hor with rfl | ⟨rfl, hok⟩
    · obtain rfl : gk = 2 := by omega
      clear hk
      by_cases hE : F2 (gm (v2 rA) (v2 rA)) = F2 (v2 a)
      · have ht := decide_eq_true hE
        have PT : Keep (∀ w : World, GlobD w → Has w S 26 (vals .u64 a) → _) := ⟨fun w (hG : GlobD w) (qa : Has w S 26 (vals .u64 a)) => lTry lA nlA a ha S rA hrA.out true ht w hG qa⟩
        have IX := fun w : World => (index22 nlA nlB w).1
        have PE : Keep (∀ w : World, Glob w → _) := ⟨fun w (hG : Glob w) => lWs pA w hG⟩
        rw [hpA.out, ← HVA.out hE] at PE
        clear hE ht
        go_wp2_with (first
          | (refine store_abs2 (by rfl) 26 (.tmp 2) (.tmp 43) (by rfl) (by rfl) (S + 1) (vals .u64 V) (by rfl) (by rfl) 26 _ qo24 (by rw [vals_size, nV.len]; kernel_rfl) (by first | rw [vals_size, vals_size, nV.len, Lo.out] | rfl) vals_one ?_
             intro w25 qo25 hkeep hbg
             have qa25 := hkeep _ _ _ qa24 (by omega)
             have qx25 := hkeep _ _ _ qx24 (by omega)
             have qr25 := hkeep _ _ _ qr24 (by omega)
             have hb25 := hb24.trans (hbg.mono (by omega))
             clear hkeep hbg hb24 qa24 qo24 qx24 qr24)
          | (have hq0 := hb23
             clear hq0
             go_at_call 30
             refine (PE.out _ (HG.out _ hb23)).mono ?_
             rintro e w24 ⟨rfl, hq⟩
             have qa24 := qa23.keep hq
             have qo24 := qo23.keep hq
             have qx24 := qx23.keep hq
             have qr24 := qr23.keep hq
             have hb24 := hb23.trans (hq.mono (HSS.out _ hb23))
             clear hq hb23 qa23 qo23 qx23 qr23)
          | (refine wpList_load_row rfl 26 (.tmp 9) rfl (w22.heap.size) rfl _ _ _ _ qr23.eq Tryd.underlying26 rfl (by rw [vals_size, nrA.len]; kernel_rfl) ?_)
          | (refine store_abs2 (by rfl) 26 (.tmp 9) (.tmp 39) (by rfl) (by rfl) (w22.heap.size) (vals .u64 rA) (by rfl) (by rfl) 26 (vals .u64 Fp2.Z12) (Has.new' _ rfl _ _) (by rw [vals_size, nrA.len]; kernel_rfl) (by first | (rw [vals_size, vals_size, nrA.len]; rfl) | rfl) vals_one ?_
             intro w23 qr23 hkeep hbg
             have hbe := ((Below.refl w22.heap.size w22).alloc (Nat.le_refl _) (.cells (vals .u64 Fp2.Z12) 26)).trans hbg
             have Nar := qa22.lt
             have qa23 := qa22.keep hbe
             have Nor := qo22.lt
             have qo23 := qo22.keep hbe
             have Nxr := qx22.lt
             have qx23 := qx22.keep hbe
             have Mr : S ≤ w22.heap.size := HSS.out _ hb22
             have hb23 := hb22.trans (hbe.mono (HSS.out _ hb22))
             clear hkeep hbg hbe hb22 qa22 qo22 qx22)
          | (have hq0 := hb21
             clear hq0
             go_at_call 26
             refine (PT.out _ (HD.out _ hb21) qa21).mono ?_
             rintro e w22 ⟨rfl, hq⟩
             have qa22 := qa21.keep hq
             have qo22 := qo21.keep hq
             have qx22 := qx21.keep hq
             have hb22 := hb21.trans (hq.mono (HSS.out _ hb21))
             clear hq hb21 qa21 qo21 qx21)
          | (refine wpList_load_row rfl 24 (.tmp 8) rfl (wr.heap.size) rfl _ _ _ _ qx21.eq Tryd.underlying24 rfl (by rw [vals_size, nlA.len]; kernel_rfl) ?_)
          | (refine store_abs2 (by rfl) 24 (.tmp 8) (.tmp 34) (by rfl) (by rfl) (wr.heap.size) (vals .u64 lA) (by rfl) (by rfl) 24 (vals .u64 Z6) (Has.new' _ rfl _ _) (by rw [vals_size, nlA.len]; kernel_rfl) (by first | (rw [vals_size, vals_size, nlA.len]; rfl) | rfl) vals_one ?_
             intro w21 qx21 hkeep hbg
             have hbe := ((Below.refl wr.heap.size wr).alloc (Nat.le_refl _) (.cells (vals .u64 Z6) 24)).trans hbg
             have Nax := qa20.lt
             have qa21 := qa20.keep hbe
             have Nox := qo20.lt
             have qo21 := qo20.keep hbe
             have Mx : S ≤ wr.heap.size := HSS.out _ hb20
             have hb21 := hb20.trans (hbe.mono (HSS.out _ hb20))
             clear hkeep hbg hbe hb20 qa20 qo20))
        refine bodyPost_ret (v := .tuple #[.agg (vals .u64 V), .bool true]) (results_row_tmp rfl _ _ (S + 1) _ _ _ _ _ rfl rfl qo25.eq Tryd.underlying26 rfl (by rw [vals_size, nV.len]; kernel_rfl)) rfl ⟨rfl, hb25⟩
      · have ht := decide_eq_false hE
        have hok : Keep (F2 (gm (v2 rB) (v2 rB)) = F2 (v2 a)) := ⟨HAB.out hE⟩
        have PT : Keep (∀ w : World, GlobD w → Has w S 26 (vals .u64 a) → _) := ⟨fun w (hG : GlobD w) (qa : Has w S 26 (vals .u64 a)) => lTry lA nlA a ha S rA hrA.out false ht w hG qa⟩
        have IX := fun w : World => (index22 nlA nlB w).1
        clear hE ht
        go_wp2_with (first
          | (refine store_abs2 (by rfl) 26 (.tmp 9) (.tmp 39) (by rfl) (by rfl) (w22.heap.size) (vals .u64 rA) (by rfl) (by rfl) 26 (vals .u64 Fp2.Z12) (Has.new' _ rfl _ _) (by rw [vals_size, nrA.len]; kernel_rfl) (by first | (rw [vals_size, vals_size, nrA.len]; rfl) | rfl) vals_one ?_
             intro w23 qr23 hkeep hbg
             have hbe := ((Below.refl w22.heap.size w22).alloc (Nat.le_refl _) (.cells (vals .u64 Fp2.Z12) 26)).trans hbg
             have Nar := qa22.lt
             have qa23 := qa22.keep hbe
             have Nor := qo22.lt
             have qo23 := qo22.keep hbe
             have Nxr := qx22.lt
             have qx23 := qx22.keep hbe
             have Mr : S ≤ w22.heap.size := HSS.out _ hb22
             have hb23 := hb22.trans (hbe.mono (HSS.out _ hb22))
             clear hkeep hbg hbe hb22 qa22 qo22 qx22)
          | (have hq0 := hb21
             clear hq0
             go_at_call 26
             refine (PT.out _ (HD.out _ hb21) qa21).mono ?_
             rintro e w22 ⟨rfl, hq⟩
             have qa22 := qa21.keep hq
             have qo22 := qo21.keep hq
             have qx22 := qx21.keep hq
             have hb22 := hb21.trans (hq.mono (HSS.out _ hb21))
             clear hq hb21 qa21 qo21 qx21)
          | (refine wpList_load_row rfl 24 (.tmp 8) rfl (wr.heap.size) rfl _ _ _ _ qx21.eq Tryd.underlying24 rfl (by rw [vals_size, nlA.len]; kernel_rfl) ?_)
          | (refine store_abs2 (by rfl) 24 (.tmp 8) (.tmp 34) (by rfl) (by rfl) (wr.heap.size) (vals .u64 lA) (by rfl) (by rfl) 24 (vals .u64 Z6) (Has.new' _ rfl _ _) (by rw [vals_size, nlA.len]; kernel_rfl) (by first | (rw [vals_size, vals_size, nlA.len]; rfl) | rfl) vals_one ?_
             intro w21 qx21 hkeep hbg
             have hbe := ((Below.refl wr.heap.size wr).alloc (Nat.le_refl _) (.cells (vals .u64 Z6) 24)).trans hbg
             have Nax := qa20.lt
             have qa21 := qa20.keep hbe
             have Nox := qo20.lt
             have qo21 := qo20.keep hbe
             have Mx : S ≤ wr.heap.size := HSS.out _ hb20
             have hb21 := hb20.trans (hbe.mono (HSS.out _ hb20))
             clear hkeep hbg hbe hb20 qa20 qo20))
        go_roundg 1
        case measure => omega
        case rel => exact ⟨1, by omega, by go_num, .inr ⟨rfl, hok⟩, qa23, qo23, hb23⟩
    · obtain rfl : gk = 1 := by omega
      clear hk
      have ht := decide_eq_true hok.out
      have hE := hok.out
      have PT : Keep (∀ w : World, GlobD w → Has w S 26 (vals .u64 a) → _) := ⟨fun w (hG : GlobD w) (qa : Has w S 26 (vals .u64 a)) => lTry lB nlB a ha S rB hrB.out true ht w hG qa⟩
      have IX := fun w : World => (index22 nlA nlB w).2
      have PE : Keep (∀ w : World, Glob w → _) := ⟨fun w (hG : Glob w) => lWs pB w hG⟩
      rw [hpB.out, ← HVB.out hE] at PE
      clear hE ht
      go_wp2_with (first
        | (refine store_abs2 (by rfl) 26 (.tmp 2) (.tmp 43) (by rfl) (by rfl) (S + 1) (vals .u64 V) (by rfl) (by rfl) 26 _ qo24 (by rw [vals_size, nV.len]; kernel_rfl) (by first | rw [vals_size, vals_size, nV.len, Lo.out] | rfl) vals_one ?_
           intro w25 qo25 hkeep hbg
           have qa25 := hkeep _ _ _ qa24 (by omega)
           have qx25 := hkeep _ _ _ qx24 (by omega)
           have qr25 := hkeep _ _ _ qr24 (by omega)
           have hb25 := hb24.trans (hbg.mono (by omega))
           clear hkeep hbg hb24 qa24 qo24 qx24 qr24)
        | (have hq0 := hb23
           clear hq0
           go_at_call 30
           refine (PE.out _ (HG.out _ hb23)).mono ?_
           rintro e w24 ⟨rfl, hq⟩
           have qa24 := qa23.keep hq
           have qo24 := qo23.keep hq
           have qx24 := qx23.keep hq
           have qr24 := qr23.keep hq
           have hb24 := hb23.trans (hq.mono (HSS.out _ hb23))
           clear hq hb23 qa23 qo23 qx23 qr23)
        | (refine wpList_load_row rfl 26 (.tmp 9) rfl (w22.heap.size) rfl _ _ _ _ qr23.eq Tryd.underlying26 rfl (by rw [vals_size, nrB.len]; kernel_rfl) ?_)
        | (refine store_abs2 (by rfl) 26 (.tmp 9) (.tmp 39) (by rfl) (by rfl) (w22.heap.size) (vals .u64 rB) (by rfl) (by rfl) 26 (vals .u64 Fp2.Z12) (Has.new' _ rfl _ _) (by rw [vals_size, nrB.len]; kernel_rfl) (by first | (rw [vals_size, vals_size, nrB.len]; rfl) | rfl) vals_one ?_
           intro w23 qr23 hkeep hbg
           have hbe := ((Below.refl w22.heap.size w22).alloc (Nat.le_refl _) (.cells (vals .u64 Fp2.Z12) 26)).trans hbg
           have Nar := qa22.lt
           have qa23 := qa22.keep hbe
           have Nor := qo22.lt
           have qo23 := qo22.keep hbe
           have Nxr := qx22.lt
           have qx23 := qx22.keep hbe
           have Mr : S ≤ w22.heap.size := HSS.out _ hb22
           have hb23 := hb22.trans (hbe.mono (HSS.out _ hb22))
           clear hkeep hbg hbe hb22 qa22 qo22 qx22)
        | (have hq0 := hb21
           clear hq0
           go_at_call 26
           refine (PT.out _ (HD.out _ hb21) qa21).mono ?_
           rintro e w22 ⟨rfl, hq⟩
           have qa22 := qa21.keep hq
           have qo22 := qo21.keep hq
           have qx22 := qx21.keep hq
           have hb22 := hb21.trans (hq.mono (HSS.out _ hb21))
           clear hq hb21 qa21 qo21 qx21)
        | (refine wpList_load_row rfl 24 (.tmp 8) rfl (wr.heap.size) rfl _ _ _ _ qx21.eq Tryd.underlying24 rfl (by rw [vals_size, nlB.len]; kernel_rfl) ?_)
        | (refine store_abs2 (by rfl) 24 (.tmp 8) (.tmp 34) (by rfl) (by rfl) (wr.heap.size) (vals .u64 lB) (by rfl) (by rfl) 24 (vals .u64 Z6) (Has.new' _ rfl _ _) (by rw [vals_size, nlB.len]; kernel_rfl) (by first | (rw [vals_size, vals_size, nlB.len]; rfl) | rfl) vals_one ?_
           intro w21 qx21 hkeep hbg
           have hbe := ((Below.refl wr.heap.size wr).alloc (Nat.le_refl _) (.cells (vals .u64 Z6) 24)).trans hbg
           have Nax := qa20.lt
           have qa21 := qa20.keep hbe
           have Nox := qo20.lt
           have qo21 := qo20.keep hbe
           have Mx : S ≤ wr.heap.size := HSS.out _ hb20
           have hb21 := hb20.trans (hbe.mono (HSS.out _ hb20))
           clear hkeep hbg hbe hb20 qa20 qo20))
      refine bodyPost_ret (v := .tuple #[.agg (vals .u64 V), .bool true]) (results_row_tmp rfl _ _ (S + 1) _ _ _ _ _ rfl rfl qo25.eq Tryd.underlying26 rfl (by rw [vals_size, nV.len]; kernel_rfl)) rfl ⟨rfl, hb25⟩

set_option maxRecDepth 100000 in
set_option maxHeartbeats 4000000 in
theorem lSg (a : List Int) (ha : Nm 12 a) (w : World) (hG : GlobD w) : Calls Tryd.prog 12 #[.agg (vals .u64 a)] w fun e w' => e = .returned (.int .i64 (sg2 (v2 a))) ∧ Below w.heap.size w w' := by
  exact gSg a ha w hG.toGlob

set_option maxRecDepth 100000 in
set_option maxHeartbeats 4000000 in
theorem lBg (a : List Int) (ha : Nm 12 a) (w : World) (hG : GlobD w) : Calls Tryd.prog 14 #[.agg (vals .u64 a)] w fun e w' => e = .returned (.bool (big2 (v2 a))) ∧ Below w.heap.size w w' := by
  exact gBg a ha w hG.toGlob

set_option maxRecDepth 100000 in
set_option maxHeartbeats 4000000 in
theorem lIs (a : List Int) (ha : Nm 12 a) (w : World) (hG : GlobD w) : Calls Tryd.prog 11 #[.agg (vals .u64 a)] w fun e w' => e = .returned (.bool (gsq (v2 a))) ∧ Below w.heap.size w w' := by
  exact gIs a ha w hG.toGlob

end Go.Proofs.YtoogmgckbalboaaDoor.Fp2r
