/-
  Own text. The head of layer 8's statements.
-/
import Derived.Test.YtoogmgckbalboaaDoorFp2rOwn
import Derived.Test.YtoogmgckbalboaaDoorFp2rRef
import Derived.Test.YtoogmgckbalboaaDoorFp2Own
import Derived.Test.YtoogmgckbalboaaDoorFp2Lem
import Derived.Test.YtoogmgckbalboaaDoorRegJ
namespace Go.Proofs.YtoogmgckbalboaaDoor.Fp2r
set_option linter.unusedVariables false
set_option linter.unusedSimpArgs false
open Go Go.RowKit Go.Proofs.YtoogmgckbalboaaDoor.Reg Go.Proofs.YtoogmgckbalboaaDoor.Base Go.Proofs.YtoogmgckbalboaaDoor.Limb Go.Proofs.YtoogmgckbalboaaDoor.Fp Go.Proofs.YtoogmgckbalboaaDoor.Fpr Go.Proofs.YtoogmgckbalboaaDoor.Fp2

theorem wpList_unguard {P : Program} {ops : Array Oper} {Q : Exit → Act → World → Prop} {o : Oper} {rest : List Oper} {a : Act} {w : World} (hw : Region.wanted o (yielded ops a.tmps) = true) (h : wpList P ops Q ({ o with guard := none } :: rest) a w) : wpList P ops Q (o :: rest) a w := by
  unfold wpList at h ⊢
  rw [if_pos hw]
  rw [if_pos (by rfl)] at h
  exact h
theorem aw_1 : Fp2.E2 (gm (0, -1) (0, -1)) (v2 (Fp.fe (-num [1, 0, 0, 0, 0, 0]) ++ Z6)) := by
  rw [v2_app (.fe _) nm_Z6]
  exact ⟨by decide +kernel, by decide +kernel⟩
theorem aw_1v : root2 (v2 (Fp.fe (-num [1, 0, 0, 0, 0, 0]) ++ Z6)) = Z6 ++ Fp.fe (-num [1, 0, 0, 0, 0, 0]) := by
  rw [root2_of aw_1]
  decide +kernel
theorem aw_2 : Fp2.E2 (gm (-1, -1) (-1, -1)) (v2 (Z6 ++ [2, 0, 0, 0, 0, 0])) := by
  rw [v2_app nm_Z6 nm_two]
  exact ⟨by decide +kernel, by decide +kernel⟩
theorem aw_2v : root2 (v2 (Z6 ++ [2, 0, 0, 0, 0, 0])) = Fp.fe (-num [1, 0, 0, 0, 0, 0]) ++ Fp.fe (-num [1, 0, 0, 0, 0, 0]) := by
  rw [root2_of aw_2]
  decide +kernel
theorem aw_3 : gsq (v2 ([1, 0, 0, 0, 0, 0] ++ [1, 0, 0, 0, 0, 0])) = false := by
  rw [v2_app nm_one nm_one, show num [1, 0, 0, 0, 0, 0] = 1 by decide]
  exact sq_two
theorem aw_4 : sg2 (v2 (Z6 ++ [1, 0, 0, 0, 0, 0])) = 1 := by
  rw [v2_app nm_Z6 nm_one]
  decide +kernel

set_option maxRecDepth 100000 in
set_option maxHeartbeats 4000000 in
theorem awake_c (w : World) (hG : GlobD w) : Calls Tryd.prog 8 #[] w fun e w' => e = .returned (.bool true) ∧ Below w.heap.size w w' := by
  obtain ⟨S, hS⟩ : ∃ S, w.heap.size = S := ⟨_, rfl⟩
  have hb0 : Below S w w := hS ▸ Below.refl _ _
  have HSS : Keep (∀ x : World, Below S w x → S ≤ x.heap.size) := ⟨fun x hb => Nat.le_trans (by omega) hb.size⟩
  have HD : Keep (∀ x : World, Below S w x → GlobD x) := ⟨fun x hb => hG.keep (by rw [hS]; exact hb)⟩
  have HG : Keep (∀ x : World, Below S w x → Glob x) := ⟨fun x hb => (HD.out x hb).toGlob⟩
  clear hG
  obtain ⟨m, hm⟩ : ∃ m, Fp.fe (-num [1, 0, 0, 0, 0, 0]) = m := ⟨_, rfl⟩
  have nm : Nm 6 m := hm ▸ .fe _
  have e1v := aw_1v
  have e2v := aw_2v
  have g1 := gsq_of aw_1
  have g2 := gsq_of aw_2
  rw [hm] at e1v e2v g1
  obtain ⟨A1, hA1⟩ : ∃ o, m ++ Z6 = o := ⟨_, rfl⟩
  have nA1 : Nm 12 A1 := hA1 ▸ nm.app2 nm_Z6
  have LA1 : Keep (A1.length = 12) := ⟨nA1.len⟩
  obtain ⟨V1, hV1⟩ : ∃ o, Z6 ++ m = o := ⟨_, rfl⟩
  have nV1 : Nm 12 V1 := hV1 ▸ nm_Z6.app2 nm
  have LV1 : Keep (V1.length = 12) := ⟨nV1.len⟩
  obtain ⟨A2, hA2⟩ : ∃ o, Z6 ++ [2, 0, 0, 0, 0, 0] = o := ⟨_, rfl⟩
  have nA2 : Nm 12 A2 := hA2 ▸ nm_Z6.app2 nm_two
  have LA2 : Keep (A2.length = 12) := ⟨nA2.len⟩
  obtain ⟨V2, hV2⟩ : ∃ o, m ++ m = o := ⟨_, rfl⟩
  have nV2 : Nm 12 V2 := hV2 ▸ nm.app2 nm
  have LV2 : Keep (V2.length = 12) := ⟨nV2.len⟩
  obtain ⟨A3, hA3⟩ : ∃ o, ([1, 0, 0, 0, 0, 0] : List Int) ++ [1, 0, 0, 0, 0, 0] = o := ⟨_, rfl⟩
  have nA3 : Nm 12 A3 := hA3 ▸ nm_one.app2 nm_one
  have LA3 : Keep (A3.length = 12) := ⟨nA3.len⟩
  obtain ⟨A4, hA4⟩ : ∃ o, Z6 ++ [1, 0, 0, 0, 0, 0] = o := ⟨_, rfl⟩
  have nA4 : Nm 12 A4 := hA4 ▸ nm_Z6.app2 nm_one
  have LA4 : Keep (A4.length = 12) := ⟨nA4.len⟩
  obtain ⟨O, hO⟩ : ∃ o, Fp2.Z12 = o := ⟨_, rfl⟩
  have nO : Nm 12 O := hO ▸ (show Nm 12 Fp2.Z12 from nm_Z12)
  have LO : Keep (O.length = 12) := ⟨nO.len⟩
  have g3 := aw_3
  have g4 := aw_4
  rw [hA1, hV1] at e1v
  rw [hA1] at g1
  rw [hA2, hV2] at e2v
  rw [hA2] at g2
  rw [hA3] at g3
  rw [hA4] at g4
  have P0 : Keep (∀ x : World, Glob x → Calls Tryd.prog 23 #[.agg (vals .u64 [1, 0, 0, 0, 0, 0])] x fun e x' => e = .returned (.agg (vals .u64 m)) ∧ Below x.heap.size x x') := ⟨fun x hG => by
    have h9 := pNeg nm_one x hG
    rwa [hm] at h9⟩
  have P1 : Keep (∀ x : World, GlobD x → Calls Tryd.prog 9 #[.agg (vals .u64 A1)] x fun e x' => e = .returned (.tuple #[.agg (vals .u64 V1), .bool true]) ∧ Below x.heap.size x x') := ⟨fun x hG => by
    have h9 := lSq_yes A1 nA1 g1 x hG
    rwa [e1v] at h9⟩
  have P2 : Keep (∀ x : World, GlobD x → Calls Tryd.prog 9 #[.agg (vals .u64 A2)] x fun e x' => e = .returned (.tuple #[.agg (vals .u64 V2), .bool true]) ∧ Below x.heap.size x x') := ⟨fun x hG => by
    have h9 := lSq_yes A2 nA2 g2 x hG
    rwa [e2v] at h9⟩
  have P3 : Keep (∀ x : World, GlobD x → Calls Tryd.prog 9 #[.agg (vals .u64 A3)] x fun e x' => e = .returned (.tuple #[.agg (vals .u64 O), .bool false]) ∧ Below x.heap.size x x') := ⟨fun x hG => by
    have h9 := lSq_no A3 nA3 g3 x hG
    rwa [hO] at h9⟩
  have P4 : Keep (∀ x : World, GlobD x → Calls Tryd.prog 12 #[.agg (vals .u64 A4)] x fun e x' => e = .returned (.int .i64 1) ∧ Below x.heap.size x x') := ⟨fun x hG => by
    have h9 := lSg A4 nA4 x hG
    rwa [g4] at h9⟩
  have KB1 : Keep (Tryd.prog.built 26 [(0, .agg (vals .u64 m))] = some (vals .u64 A1)) := ⟨hA1 ▸ build2z nm⟩
  have KB2 : Keep (Tryd.prog.built 26 [(1, .agg (vals .u64 [2, 0, 0, 0, 0, 0]))] = some (vals .u64 A2)) := ⟨hA2 ▸ build2b nm_two⟩
  have KB3 : Keep (Tryd.prog.built 26 [(0, .agg (vals .u64 [1, 0, 0, 0, 0, 0])), (1, .agg (vals .u64 [1, 0, 0, 0, 0, 0]))] = some (vals .u64 A3)) := ⟨hA3 ▸ build2 nm_one nm_one⟩
  have KB4 : Keep (Tryd.prog.built 26 [(1, .agg (vals .u64 m))] = some (vals .u64 V1)) := ⟨hV1 ▸ build2b nm⟩
  have KB5 : Keep (Tryd.prog.built 26 [(0, .agg (vals .u64 m)), (1, .agg (vals .u64 m))] = some (vals .u64 V2)) := ⟨hV2 ▸ build2 nm nm⟩
  have KB6 : Keep (Tryd.prog.built 26 [(1, .agg (vals .u64 [1, 0, 0, 0, 0, 0]))] = some (vals .u64 A4)) := ⟨hA4 ▸ build2b nm_one⟩
  have Lm : Keep (m.length = 6) := ⟨nm.len⟩
  clear hm e1v e2v g1 g2 g3 g4 hA1 hV1 hA2 hV2 hA3 hA4 hO
  rw [hS]
  go_enter Tryd.func8, Tryd.ntmps8
  go_wp2_with (first
    | (refine store_abs2 (by rfl) 26 (.tmp 6) (.tmp 27) (by rfl) (by rfl) (w7.heap.size) (vals .u64 O) (by rfl) (by rfl) 26 (vals .u64 Fp2.Z12) (Has.new' _ rfl _ _) (by rw [vals_size, LO.out]; kernel_rfl) (by first | (rw [vals_size, vals_size, LO.out]; rfl) | rfl) vals_one ?_
       intro w8 qz8 hkeep hbg
       have hbe := ((Below.refl w7.heap.size w7).alloc (Nat.le_refl _) (.cells (vals .u64 Fp2.Z12) 26)).trans hbg
       have Naz := qa7.lt
       have qa8 := qa7.keep hbe
       have Nxz := qx7.lt
       have qx8 := qx7.keep hbe
       have Nyz := qy7.lt
       have qy8 := qy7.keep hbe
       have Mz : S ≤ w7.heap.size := HSS.out _ hb7
       have hb8 := hb7.trans (hbe.mono (HSS.out _ hb7))
       clear hkeep hbg hbe hb7 qa7 qx7 qy7)
    | (have hq0 := hb6
       clear hq0
       go_at_call 9
       refine (P3.out _ (HD.out _ hb6)).mono ?_
       rintro e w7 ⟨rfl, hq⟩
       have qa7 := qa6.keep hq
       have qx7 := qx6.keep hq
       have qy7 := qy6.keep hq
       have hb7 := hb6.trans (hq.mono (HSS.out _ hb6))
       clear hq hb6 qa6 qx6 qy6)
    | (refine wpList_buildTo (by rfl) 26 #[(0, .tmp 23), (1, .tmp 24)] (by rfl) (some 25) (by rfl) (vals .u64 A3) (by rw [Array.toList_map]; exact KB3.out) ?_)
    | (refine wpList_buildTo (by rfl) 24 #[(0, .const (.int .u64 1))] (by rfl) (some 24) (by rfl) (vals .u64 [1, 0, 0, 0, 0, 0]) (by kernel_rfl) ?_)
    | (refine wpList_buildTo (by rfl) 24 #[(0, .const (.int .u64 1))] (by rfl) (some 23) (by rfl) (vals .u64 [1, 0, 0, 0, 0, 0]) (by kernel_rfl) ?_)
    | (refine store_abs2 (by rfl) 26 (.tmp 4) (.tmp 20) (by rfl) (by rfl) (w5.heap.size) (vals .u64 V2) (by rfl) (by rfl) 26 (vals .u64 Fp2.Z12) (Has.new' _ rfl _ _) (by rw [vals_size, LV2.out]; kernel_rfl) (by first | (rw [vals_size, vals_size, LV2.out]; rfl) | rfl) vals_one ?_
       intro w6 qy6 hkeep hbg
       have hbe := ((Below.refl w5.heap.size w5).alloc (Nat.le_refl _) (.cells (vals .u64 Fp2.Z12) 26)).trans hbg
       have Nay := qa5.lt
       have qa6 := qa5.keep hbe
       have Nxy := qx5.lt
       have qx6 := qx5.keep hbe
       have My : S ≤ w5.heap.size := HSS.out _ hb5
       have hb6 := hb5.trans (hbe.mono (HSS.out _ hb5))
       clear hkeep hbg hbe hb5 qa5 qx5)
    | (have hq0 := hb4
       clear hq0
       go_at_call 9
       refine (P2.out _ (HD.out _ hb4)).mono ?_
       rintro e w5 ⟨rfl, hq⟩
       have qa5 := qa4.keep hq
       have qx5 := qx4.keep hq
       have hb5 := hb4.trans (hq.mono (HSS.out _ hb4))
       clear hq hb4 qa4 qx4)
    | (refine wpList_buildTo (by rfl) 26 #[(1, .tmp 17)] (by rfl) (some 18) (by rfl) (vals .u64 A2) (by rw [Array.toList_map]; exact KB2.out) ?_)
    | (refine wpList_buildTo (by rfl) 24 #[(0, .const (.int .u64 2))] (by rfl) (some 17) (by rfl) (vals .u64 [2, 0, 0, 0, 0, 0]) (by kernel_rfl) ?_)
    | (refine store_abs2 (by rfl) 26 (.tmp 2) (.tmp 14) (by rfl) (by rfl) (w3.heap.size) (vals .u64 V1) (by rfl) (by rfl) 26 (vals .u64 Fp2.Z12) (Has.new' _ rfl _ _) (by rw [vals_size, LV1.out]; kernel_rfl) (by first | (rw [vals_size, vals_size, LV1.out]; rfl) | rfl) vals_one ?_
       intro w4 qx4 hkeep hbg
       have hbe := ((Below.refl w3.heap.size w3).alloc (Nat.le_refl _) (.cells (vals .u64 Fp2.Z12) 26)).trans hbg
       have Nax := qa3.lt
       have qa4 := qa3.keep hbe
       have Mx : S ≤ w3.heap.size := HSS.out _ hb3
       have hb4 := hb3.trans (hbe.mono (HSS.out _ hb3))
       clear hkeep hbg hbe hb3 qa3)
    | (have hq0 := hb2
       clear hq0
       go_at_call 9
       refine (P1.out _ (HD.out _ hb2)).mono ?_
       rintro e w3 ⟨rfl, hq⟩
       have qa3 := qa2.keep hq
       have hb3 := hb2.trans (hq.mono (HSS.out _ hb2))
       clear hq hb2 qa2)
    | (refine wpList_load_row rfl 26 (.tmp 1) rfl (w1.heap.size) rfl _ _ _ _ qa2.eq Tryd.underlying26 rfl (by rw [vals_size, LA1.out]; kernel_rfl) ?_)
    | (refine store_abs2 (by rfl) 26 (.tmp 1) (.tmp 10) (by rfl) (by rfl) (w1.heap.size) (vals .u64 A1) (by rfl) (by rfl) 26 (vals .u64 Fp2.Z12) (Has.new' _ rfl _ _) (by rw [vals_size, LA1.out]; kernel_rfl) (by first | (rw [vals_size, vals_size, LA1.out]; rfl) | rfl) vals_one ?_
       intro w2 qa2 hkeep hbg
       have hbe := ((Below.refl w1.heap.size w1).alloc (Nat.le_refl _) (.cells (vals .u64 Fp2.Z12) 26)).trans hbg
       have Ma : S ≤ w1.heap.size := HSS.out _ hb1
       have hb2 := hb1.trans (hbe.mono (HSS.out _ hb1))
       clear hkeep hbg hbe hb1 )
    | (refine wpList_buildTo (by rfl) 26 #[(0, .tmp 9)] (by rfl) (some 10) (by rfl) (vals .u64 A1) (by rw [Array.toList_map]; exact KB1.out) ?_)
    | (have hq0 := hb0
       clear hq0
       go_at_call 23
       refine (P0.out _ (HG.out _ hb0)).mono ?_
       rintro e w1 ⟨rfl, hq⟩
       have hb1 := hb0.trans (hq.mono (HSS.out _ hb0))
       clear hq hb0 )
    | (refine wpList_buildTo (by rfl) 24 #[(0, .const (.int .u64 1))] (by rfl) (some 8) (by rfl) (vals .u64 [1, 0, 0, 0, 0, 0]) (by kernel_rfl) ?_))
  refine wp_reads 31 0 w8.heap.size (by kernel_rfl) (by kernel_rfl) (by rfl) (by kernel_rfl) (fun _ _ d _ _ h => by cases d <;> exact h) ?_
  simp only [List.take_succ_cons, List.take_zero]
  repeat ((first
    | refine take_eql_t (by rfl) (by rfl) (by rfl) (by rfl) eqok2 gd2 (Nm.len (n := 12) (by with_reducible first | exact Nm.fe _ | exact Nm.F2 _ | assumption | exact nm_one | exact nm_Z6 | (refine Nm.seg (m := 12) ?_ (by decide); assumption) | exact Nm.seg (m := 12) (Nm.F2 _) (by decide) | exact Nm.app2 (.fe _) (.fe _) | exact nm_rep | exact nm_Z12 | exact nm_two | (refine Nm.app2 ?_ nm_Z6; assumption) | exact Nm.app2 (.fe _) nm_Z6 | exact Nm.app2 nm_rep nm_one | exact ⟨rfl, words_of _ (by decide)⟩ | fail)) (Nm.len (n := 12) (by with_reducible first | exact Nm.fe _ | exact Nm.F2 _ | assumption | exact nm_one | exact nm_Z6 | (refine Nm.seg (m := 12) ?_ (by decide); assumption) | exact Nm.seg (m := 12) (Nm.F2 _) (by decide) | exact Nm.app2 (.fe _) (.fe _) | exact nm_rep | exact nm_Z12 | exact nm_two | (refine Nm.app2 ?_ nm_Z6; assumption) | exact Nm.app2 (.fe _) nm_Z6 | exact Nm.app2 nm_rep nm_one | exact ⟨rfl, words_of _ (by decide)⟩ | fail)) (by with_reducible first | rfl) ?_
    | refine take_neq_t (by rfl) (by rfl) (by rfl) (by rfl) eqok2 gd2 (Nm.len (n := 12) (by with_reducible first | exact Nm.fe _ | exact Nm.F2 _ | assumption | exact nm_one | exact nm_Z6 | (refine Nm.seg (m := 12) ?_ (by decide); assumption) | exact Nm.seg (m := 12) (Nm.F2 _) (by decide) | exact Nm.app2 (.fe _) (.fe _) | exact nm_rep | exact nm_Z12 | exact nm_two | (refine Nm.app2 ?_ nm_Z6; assumption) | exact Nm.app2 (.fe _) nm_Z6 | exact Nm.app2 nm_rep nm_one | exact ⟨rfl, words_of _ (by decide)⟩ | fail)) (Nm.len (n := 12) (by with_reducible first | exact Nm.fe _ | exact Nm.F2 _ | assumption | exact nm_one | exact nm_Z6 | (refine Nm.seg (m := 12) ?_ (by decide); assumption) | exact Nm.seg (m := 12) (Nm.F2 _) (by decide) | exact Nm.app2 (.fe _) (.fe _) | exact nm_rep | exact nm_Z12 | exact nm_two | (refine Nm.app2 ?_ nm_Z6; assumption) | exact Nm.app2 (.fe _) nm_Z6 | exact Nm.app2 nm_rep nm_one | exact ⟨rfl, words_of _ (by decide)⟩ | fail)) (by with_reducible first | rfl) ?_
    | refine take_eql_f (by rfl) (by rfl) (by rfl) (by rfl) eqok2 gd2 (Nm.len (n := 12) (by with_reducible first | exact Nm.fe _ | exact Nm.F2 _ | assumption | exact nm_one | exact nm_Z6 | (refine Nm.seg (m := 12) ?_ (by decide); assumption) | exact Nm.seg (m := 12) (Nm.F2 _) (by decide) | exact Nm.app2 (.fe _) (.fe _) | exact nm_rep | exact nm_Z12 | exact nm_two | (refine Nm.app2 ?_ nm_Z6; assumption) | exact Nm.app2 (.fe _) nm_Z6 | exact Nm.app2 nm_rep nm_one | exact ⟨rfl, words_of _ (by decide)⟩ | fail)) (Nm.len (n := 12) (by with_reducible first | exact Nm.fe _ | exact Nm.F2 _ | assumption | exact nm_one | exact nm_Z6 | (refine Nm.seg (m := 12) ?_ (by decide); assumption) | exact Nm.seg (m := 12) (Nm.F2 _) (by decide) | exact Nm.app2 (.fe _) (.fe _) | exact nm_rep | exact nm_Z12 | exact nm_two | (refine Nm.app2 ?_ nm_Z6; assumption) | exact Nm.app2 (.fe _) nm_Z6 | exact Nm.app2 nm_rep nm_one | exact ⟨rfl, words_of _ (by decide)⟩ | fail)) (by with_reducible first | assumption) ?_
    | refine take_neq_f (by rfl) (by rfl) (by rfl) (by rfl) eqok2 gd2 (Nm.len (n := 12) (by with_reducible first | exact Nm.fe _ | exact Nm.F2 _ | assumption | exact nm_one | exact nm_Z6 | (refine Nm.seg (m := 12) ?_ (by decide); assumption) | exact Nm.seg (m := 12) (Nm.F2 _) (by decide) | exact Nm.app2 (.fe _) (.fe _) | exact nm_rep | exact nm_Z12 | exact nm_two | (refine Nm.app2 ?_ nm_Z6; assumption) | exact Nm.app2 (.fe _) nm_Z6 | exact Nm.app2 nm_rep nm_one | exact ⟨rfl, words_of _ (by decide)⟩ | fail)) (Nm.len (n := 12) (by with_reducible first | exact Nm.fe _ | exact Nm.F2 _ | assumption | exact nm_one | exact nm_Z6 | (refine Nm.seg (m := 12) ?_ (by decide); assumption) | exact Nm.seg (m := 12) (Nm.F2 _) (by decide) | exact Nm.app2 (.fe _) (.fe _) | exact nm_rep | exact nm_Z12 | exact nm_two | (refine Nm.app2 ?_ nm_Z6; assumption) | exact Nm.app2 (.fe _) nm_Z6 | exact Nm.app2 nm_rep nm_one | exact ⟨rfl, words_of _ (by decide)⟩ | fail)) (by with_reducible first | assumption) ?_
    | refine take_build (by rfl) (t := 24) (parts := #[(0, .const (.int .u64 1))]) (by rfl) (cells := vals .u64 [1, 0, 0, 0, 0, 0]) (by kernel_rfl) ?_
    | refine take_build (by rfl) (t := 26) (parts := #[(1, .tmp 31)]) (by rfl) (cells := vals .u64 V1) KB4.out ?_
    | refine take_build (by rfl) (t := 26) (parts := #[(0, .tmp 40), (1, .tmp 42)]) (by rfl) (cells := vals .u64 V2) KB5.out ?_
    | refine take_build (by rfl) (t := 26) (parts := #[(1, .tmp 54)]) (by rfl) (cells := vals .u64 A4) KB6.out ?_
    | refine take_load (by rfl) 24 (by rfl) (g := w1.heap.size) (n := 6) (by rfl) (t := 26) (xs := A1) (fun w hw => hw.has qa8 (Nat.ne_of_lt qa8.lt)) Tryd.underlying24 rfl (by kernel_rfl) (by rw [LA1.out]; decide) ?_
    | refine take_loadw (by rfl) 26 (by rfl) (g := w1.heap.size) (n := 12) (by rfl) (t := 26) (xs := A1) (fun w hw => hw.has qa8 (Nat.ne_of_lt qa8.lt)) Tryd.underlying26 rfl (by kernel_rfl) LA1.out ?_
    | refine take_load (by rfl) 24 (by rfl) (g := w3.heap.size) (n := 6) (by rfl) (t := 26) (xs := V1) (fun w hw => hw.has qx8 (Nat.ne_of_lt qx8.lt)) Tryd.underlying24 rfl (by kernel_rfl) (by rw [LV1.out]; decide) ?_
    | refine take_loadw (by rfl) 26 (by rfl) (g := w3.heap.size) (n := 12) (by rfl) (t := 26) (xs := V1) (fun w hw => hw.has qx8 (Nat.ne_of_lt qx8.lt)) Tryd.underlying26 rfl (by kernel_rfl) LV1.out ?_
    | refine take_load (by rfl) 24 (by rfl) (g := w5.heap.size) (n := 6) (by rfl) (t := 26) (xs := V2) (fun w hw => hw.has qy8 (Nat.ne_of_lt qy8.lt)) Tryd.underlying24 rfl (by kernel_rfl) (by rw [LV2.out]; decide) ?_
    | refine take_loadw (by rfl) 26 (by rfl) (g := w5.heap.size) (n := 12) (by rfl) (t := 26) (xs := V2) (fun w hw => hw.has qy8 (Nat.ne_of_lt qy8.lt)) Tryd.underlying26 rfl (by kernel_rfl) LV2.out ?_
    | refine take_load (by rfl) 24 (by rfl) (g := w7.heap.size) (n := 6) (by rfl) (t := 26) (xs := O) (fun w hw => hw.has qz8 (Nat.ne_of_lt qz8.lt)) Tryd.underlying24 rfl (by kernel_rfl) (by rw [LO.out]; decide) ?_
    | refine take_loadw (by rfl) 26 (by rfl) (g := w7.heap.size) (n := 12) (by rfl) (t := 26) (xs := O) (fun w hw => hw.has qz8 (Nat.ne_of_lt qz8.lt)) Tryd.underlying26 rfl (by kernel_rfl) LO.out ?_
    | refine wpTake_cons (.inl ⟨by rfl, fun w hw => (by unfold Oper.quietAt; go_simp; (first | with_reducible refine P0.out _ (HG.out _ (hb8.trans (hw.below (HSS.out _ hb8) (HSS.out _ hb8)))) | with_reducible refine P4.out _ (HD.out _ (hb8.trans (hw.below (HSS.out _ hb8) (HSS.out _ hb8))))) <;> (with_reducible first | exact Nm.fe _ | exact Nm.F2 _ | assumption | exact nm_one | exact nm_Z6 | (refine Nm.seg (m := 12) ?_ (by decide); assumption) | exact Nm.seg (m := 12) (Nm.F2 _) (by decide) | exact Nm.app2 (.fe _) (.fe _) | exact nm_rep | exact nm_Z12 | exact nm_two | (refine Nm.app2 ?_ nm_Z6; assumption) | exact Nm.app2 (.fe _) nm_Z6 | exact Nm.app2 nm_rep nm_one | exact ⟨rfl, words_of _ (by decide)⟩ | fail))⟩) ?_
    | refine take_skip (by rfl) ?_
    | refine wpTake_cons (Steady.of_yields (Or.inl ⟨by rfl, fun w => (by first | (go_simp; done) | (go_simp; with_reducible rfl))⟩)) ?_); simp only [List.getElem_toArray, List.getElem_cons_zero, List.getElem_cons_succ, Act.put, List.setIfInBounds_toArray, List.set_cons_zero, List.set_cons_succ])
  refine wpTake_nil ?_
  refine wpAnyU_end (by kernel_rfl) (fun w9 hq0 => ?_)
  have hq := (drawn_below w8).trans hq0
  have qa9 := qa8.keep hq
  have qx9 := qx8.keep hq
  have qy9 := qy8.keep hq
  have qz9 := qz8.keep hq
  have hb9 := hb8.trans (hq.mono (HSS.out _ hb8))
  clear hq0 hq hb8 qa8 qx8 qy8 qz8
  go_wp2
  go_ret
  exact ⟨rfl, hb9⟩

end Go.Proofs.YtoogmgckbalboaaDoor.Fp2r
