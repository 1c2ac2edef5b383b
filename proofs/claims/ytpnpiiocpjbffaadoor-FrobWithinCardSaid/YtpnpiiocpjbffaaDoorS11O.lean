/-
  Own text. Layer 11, the landed bodies by the reckoner.
-/
import Derived.Test.YtpnpiiocpjbffaaDoorS11M
import Derived.Test.YtpnpiiocpjbffaaDoorMFrob
namespace Go.Proofs.YtpnpiiocpjbffaaDoor.S11O
set_option linter.unusedVariables false
set_option linter.unusedSimpArgs false
open Go Go.RowKit Go.Proofs.YtpnpiiocpjbffaaDoor.Reg Go.Proofs.YtpnpiiocpjbffaaDoor.Base Go.Proofs.YtpnpiiocpjbffaaDoor.Limb Go.Proofs.YtpnpiiocpjbffaaDoor.Sx Go.Proofs.YtpnpiiocpjbffaaDoor.Fp Go.Proofs.YtpnpiiocpjbffaaDoor.Fp2 Go.Proofs.YtpnpiiocpjbffaaDoor.Fp6 Go.Proofs.YtpnpiiocpjbffaaDoor.Fp12 Go.Proofs.YtpnpiiocpjbffaaDoor.Frob Go.Proofs.YtpnpiiocpjbffaaDoor.S11R Go.Proofs.YtpnpiiocpjbffaaDoor.S11M

def GL : List (Nat × Row) := [(1, [.nums 72 bfL]), (2, [.nums 36 bsL])]
theorem has_nums {u : World} {g t n : Nat} {xs : List Int} (h : Has u g t (vals .u64 xs)) : Has u g t (den [.nums n xs]).toArray := by
  have : (den [.nums n xs]).toArray = vals .u64 xs := by simp [den, Sg.den, vals]
  rw [this]
  exact h
theorem GL_ok : GlOk GlobD GL := fun n r h => by
  unfold GL lookG at h
  split at h
  · rename_i hn
    subst hn
    obtain rfl := Option.some.inj h
    exact ⟨⟨⟨rfl, words_of _ (by decide)⟩, trivial⟩, fun u hu => hu.x1.imp fun t h => has_nums h⟩
  · unfold lookG at h
    split at h
    · rename_i hn
      subst hn
      obtain rfl := Option.some.inj h
      exact ⟨⟨⟨rfl, words_of _ (by decide)⟩, trivial⟩, fun u hu => hu.x2.imp fun t h => has_nums h⟩
    · cases h
def L0 : List (Fact Tryd.prog GlobD) := S7.lReduce.fact (.con Tryd.func26 rfl (by decide) S7.lReduce) ::
  S7.lConj.fact (.con Tryd.func22 rfl (by decide) S7.lConj) ::
  S7.lMul.fact (.con Tryd.func41 rfl (by decide) S7.lMul) ::
  S7.lScale.fact (.con Tryd.func48 rfl (by decide) S7.lScale) ::
  []
def X0 : Cx := (Cx.of [] (tb L0)).glob GL
theorem X0_ok : CxOk Tryd.prog X0 GlobD := (cx_ok (E := []) L0 trivial (by kernel_rfl)).glob GL_ok
def L1 : List (Fact Tryd.prog GlobD) := ⟨15, entI 15 X0 9, .inline X0_ok GlobD.keep Tryd.func15 rfl (by decide)⟩ ::
  L0
def X1 : Cx := (Cx.of [] (tb L1)).glob GL
theorem X1_ok : CxOk Tryd.prog X1 GlobD := (cx_ok (E := []) L1 trivial (by kernel_rfl)).glob GL_ok
def L2 : List (Fact Tryd.prog GlobD) := ⟨47, entI 47 X1 9, .inline X1_ok GlobD.keep Tryd.func47 rfl (by decide)⟩ ::
  L1
theorem tm12 (n : Int) : (n.tmod 12 + 12).tmod 12 = n % 12 ∧ -12 < n.tmod 12 ∧ n.tmod 12 < 12 := by
  have e := Int.tmod_add_mul_tdiv n 12
  have l := Int.tmod_lt_of_pos n (by decide : (0 : Int) < 12)
  have g := Int.lt_tmod_of_pos n (by decide : (0 : Int) < 12)
  refine ⟨?_, g, l⟩
  rw [Int.tmod_eq_emod_of_nonneg (by omega)]
  omega
set_option maxRecDepth 100000 in
set_option maxHeartbeats 1000000 in
theorem steps_c (n : Int) (hn : InI n) (w : World) : Calls Tryd.prog 29 #[.int .i64 n] w fun e w' => e = .returned (.func (.func 47) #[] #[.pointer (some ⟨w.heap.size, 0, none⟩)]) ∧ Has w' w.heap.size 3 #[.int .i64 (n % 12)] ∧ RowKit.Below w.heap.size w w' := by
  obtain ⟨k1, k2, k3⟩ := tm12 n
  go_enter Tryd.func29, Tryd.ntmps29
  go_wp2
  go_ret
  exact ⟨rfl, Has.new _ _ _, (RowKit.Below.refl _ _).alloc (Nat.le_refl _) _⟩
/-- The steps' count in its box, and what makes the steps. -/
def entSteps (k : Int) : Ent3 := fun b0 bl args => match args with
  | [x] => match numOf x with
    | some (.i64, n) => some (.fn 47 [b0], (3, [.one (.int .i64 k)]), [n % 12 = k ∧ InI n])
    | _ => none
  | _ => none
theorem eSteps (k : Int) : EOk3 Tryd.prog GlobD 29 (entSteps k) := by
  refine ⟨enter_of Tryd.func29 (by decide) (by decide), fun bl args v t r ps gs he hH ho w hG hB => ?_⟩
  unfold entSteps at he
  split at he
  · rename_i x
    split at he
    · rename_i n h1
      injection he with he
      injection he with e1 e2
      injection e2 with e2 e3
      injection e2 with e2 e4
      subst e1 e2 e3 e4
      obtain ⟨⟨hk, hn⟩, _⟩ := hH
      refine ⟨⟨rfl, trivial⟩, fun j hj => ?_, ?_⟩
      · obtain rfl := List.mem_singleton.1 hj
        exact Nat.lt_succ_self _
      · simp only [List.map_cons, List.map_nil, numOf_den h1]
        refine (steps_c n hn w).mono fun e w' ⟨e1, e2, e3⟩ => ⟨w.heap.size, Nat.le_refl _, ?_, ?_, e3⟩
        · rw [hk] at e2
          exact e2
        · rw [e1]
          simp [AV.den, List.getD]
    · cases he
  · cases he
theorem tm2 (n : Int) : n.tmod 2 + 2 * n.tdiv 2 = n ∧ -2 < n.tmod 2 ∧ n.tmod 2 < 2 := ⟨Int.tmod_add_mul_tdiv n 2, Int.lt_tmod_of_pos n (by decide), Int.tmod_lt_of_pos n (by decide)⟩
def XK (k : Int) : Cx := ((Cx.of [] (tb L2)).glob GL).made [(29, entSteps k)]
theorem XK_ok (k : Int) : CxOk Tryd.prog (XK k) GlobD := ((cx_ok (E := []) L2 trivial (by kernel_rfl)).glob GL_ok).made ⟨eSteps k, trivial⟩
def XS : Cx := (Cx.of [] (tb L0)).signed
theorem XS_ok : CxOk Tryd.prog XS GlobD := (cx_ok (E := []) L0 trivial (by kernel_rfl)).signed
set_option maxRecDepth 100000 in
theorem l12_0 {a : List Int} (ha : Nm 72 a) {n : Int} (hn : InI n) (hk : n % 12 = 0) (w : World) (hG : GlobD w) : Calls Tryd.prog 11 #[.agg (vals .u64 a), .int .i64 n] w fun e w' => e = .returned (.agg (vals .u64 (g12 n a))) ∧ RowKit.Below w.heap.size w w' := by
  have he : outW (evalF Tryd.prog (XK 0) 0 9 Tryd.f11 [W 72 a, .num .i64 n] [] []) = some (List.replicate 1 (W 72 (all (fun i off => pe 0 i off a))), [n % 12 = 0 ∧ InI n]) := by kernel_rfl
  have h := fn_out (XK_ok 0).toCxB rfl Tryd.func11 1 he (hp (⟨hk, hn⟩) trivial) (fun v hv => by
    simp only [List.mem_cons, List.not_mem_nil, or_false] at hv
    rcases hv with rfl | rfl
    · exact w_ok ha _
    · trivial) (fun u hu => hG.keep hu)
  rw [w_den, show all (fun i off => pe 0 i off a) = g12 n a from by
    rw [even12]
    show _ = F12 (pn (n % 12).toNat (v12 a))
    rw [hk]
    rfl] at h
  simp only [List.map_cons, List.map_nil, w_den] at h
  exact h
set_option maxRecDepth 100000 in
theorem l6_0 {a : List Int} (ha : Nm 36 a) {n : Int} (hn : InI n) (hk : n % 12 = 0) (w : World) (hG : GlobD w) : Calls Tryd.prog 13 #[.agg (vals .u64 a), .int .i64 n] w fun e w' => e = .returned (.agg (vals .u64 (g6 n a))) ∧ RowKit.Below w.heap.size w w' := by
  have he : outW (evalF Tryd.prog (XK 0) 0 9 Tryd.f13 [W 36 a, .num .i64 n] [] []) = some (List.replicate 1 (W 36 (all6 (fun i off => pe 0 i off a))), [n % 12 = 0 ∧ InI n]) := by kernel_rfl
  have h := fn_out (XK_ok 0).toCxB rfl Tryd.func13 1 he (hp (⟨hk, hn⟩) trivial) (fun v hv => by
    simp only [List.mem_cons, List.not_mem_nil, or_false] at hv
    rcases hv with rfl | rfl
    · exact w_ok ha _
    · trivial) (fun u hu => hG.keep hu)
  rw [w_den, show all6 (fun i off => pe 0 i off a) = g6 n a from by
    rw [even6, g6_eq n ha, show (n % 6).toNat = 0 by omega]] at h
  simp only [List.map_cons, List.map_nil, w_den] at h
  exact h
set_option maxRecDepth 100000 in
theorem l12_1 {a : List Int} (ha : Nm 72 a) {n : Int} (hn : InI n) (hk : n % 12 = 1) (w : World) (hG : GlobD w) : Calls Tryd.prog 11 #[.agg (vals .u64 a), .int .i64 n] w fun e w' => e = .returned (.agg (vals .u64 (g12 n a))) ∧ RowKit.Below w.heap.size w w' := by
  have he : outW (evalF Tryd.prog (XK 1) 0 9 Tryd.f11 [W 72 a, .num .i64 n] [] []) = some (List.replicate 1 (W 72 (all (fun i off => po 0 i off a))), [n % 12 = 1 ∧ InI n]) := by kernel_rfl
  have h := fn_out (XK_ok 1).toCxB rfl Tryd.func11 1 he (hp (⟨hk, hn⟩) trivial) (fun v hv => by
    simp only [List.mem_cons, List.not_mem_nil, or_false] at hv
    rcases hv with rfl | rfl
    · exact w_ok ha _
    · trivial) (fun u hu => hG.keep hu)
  rw [w_den, show all (fun i off => po 0 i off a) = g12 n a from by
    rw [odd12]
    show _ = F12 (pn (n % 12).toNat (v12 a))
    rw [hk]
    rfl] at h
  simp only [List.map_cons, List.map_nil, w_den] at h
  exact h
set_option maxRecDepth 100000 in
theorem l6_1 {a : List Int} (ha : Nm 36 a) {n : Int} (hn : InI n) (hk : n % 12 = 1) (w : World) (hG : GlobD w) : Calls Tryd.prog 13 #[.agg (vals .u64 a), .int .i64 n] w fun e w' => e = .returned (.agg (vals .u64 (g6 n a))) ∧ RowKit.Below w.heap.size w w' := by
  have he : outW (evalF Tryd.prog (XK 1) 0 9 Tryd.f13 [W 36 a, .num .i64 n] [] []) = some (List.replicate 1 (W 36 (all6 (fun i off => po 0 i off a))), [n % 12 = 1 ∧ InI n]) := by kernel_rfl
  have h := fn_out (XK_ok 1).toCxB rfl Tryd.func13 1 he (hp (⟨hk, hn⟩) trivial) (fun v hv => by
    simp only [List.mem_cons, List.not_mem_nil, or_false] at hv
    rcases hv with rfl | rfl
    · exact w_ok ha _
    · trivial) (fun u hu => hG.keep hu)
  rw [w_den, show all6 (fun i off => po 0 i off a) = g6 n a from by
    rw [odd6, g6_eq n ha, show (n % 6).toNat = 1 by omega]] at h
  simp only [List.map_cons, List.map_nil, w_den] at h
  exact h
set_option maxRecDepth 100000 in
theorem l12_2 {a : List Int} (ha : Nm 72 a) {n : Int} (hn : InI n) (hk : n % 12 = 2) (w : World) (hG : GlobD w) : Calls Tryd.prog 11 #[.agg (vals .u64 a), .int .i64 n] w fun e w' => e = .returned (.agg (vals .u64 (g12 n a))) ∧ RowKit.Below w.heap.size w w' := by
  have he : outW (evalF Tryd.prog (XK 2) 0 9 Tryd.f11 [W 72 a, .num .i64 n] [] []) = some (List.replicate 1 (W 72 (all (fun i off => pe 1 i off a))), [n % 12 = 2 ∧ InI n]) := by kernel_rfl
  have h := fn_out (XK_ok 2).toCxB rfl Tryd.func11 1 he (hp (⟨hk, hn⟩) trivial) (fun v hv => by
    simp only [List.mem_cons, List.not_mem_nil, or_false] at hv
    rcases hv with rfl | rfl
    · exact w_ok ha _
    · trivial) (fun u hu => hG.keep hu)
  rw [w_den, show all (fun i off => pe 1 i off a) = g12 n a from by
    rw [even12]
    show _ = F12 (pn (n % 12).toNat (v12 a))
    rw [hk]
    rfl] at h
  simp only [List.map_cons, List.map_nil, w_den] at h
  exact h
set_option maxRecDepth 100000 in
theorem l6_2 {a : List Int} (ha : Nm 36 a) {n : Int} (hn : InI n) (hk : n % 12 = 2) (w : World) (hG : GlobD w) : Calls Tryd.prog 13 #[.agg (vals .u64 a), .int .i64 n] w fun e w' => e = .returned (.agg (vals .u64 (g6 n a))) ∧ RowKit.Below w.heap.size w w' := by
  have he : outW (evalF Tryd.prog (XK 2) 0 9 Tryd.f13 [W 36 a, .num .i64 n] [] []) = some (List.replicate 1 (W 36 (all6 (fun i off => pe 1 i off a))), [n % 12 = 2 ∧ InI n]) := by kernel_rfl
  have h := fn_out (XK_ok 2).toCxB rfl Tryd.func13 1 he (hp (⟨hk, hn⟩) trivial) (fun v hv => by
    simp only [List.mem_cons, List.not_mem_nil, or_false] at hv
    rcases hv with rfl | rfl
    · exact w_ok ha _
    · trivial) (fun u hu => hG.keep hu)
  rw [w_den, show all6 (fun i off => pe 1 i off a) = g6 n a from by
    rw [even6, g6_eq n ha, show (n % 6).toNat = 2 by omega]] at h
  simp only [List.map_cons, List.map_nil, w_den] at h
  exact h
set_option maxRecDepth 100000 in
theorem l12_3 {a : List Int} (ha : Nm 72 a) {n : Int} (hn : InI n) (hk : n % 12 = 3) (w : World) (hG : GlobD w) : Calls Tryd.prog 11 #[.agg (vals .u64 a), .int .i64 n] w fun e w' => e = .returned (.agg (vals .u64 (g12 n a))) ∧ RowKit.Below w.heap.size w w' := by
  have he : outW (evalF Tryd.prog (XK 3) 0 9 Tryd.f11 [W 72 a, .num .i64 n] [] []) = some (List.replicate 1 (W 72 (all (fun i off => po 1 i off a))), [n % 12 = 3 ∧ InI n]) := by kernel_rfl
  have h := fn_out (XK_ok 3).toCxB rfl Tryd.func11 1 he (hp (⟨hk, hn⟩) trivial) (fun v hv => by
    simp only [List.mem_cons, List.not_mem_nil, or_false] at hv
    rcases hv with rfl | rfl
    · exact w_ok ha _
    · trivial) (fun u hu => hG.keep hu)
  rw [w_den, show all (fun i off => po 1 i off a) = g12 n a from by
    rw [odd12]
    show _ = F12 (pn (n % 12).toNat (v12 a))
    rw [hk]
    rfl] at h
  simp only [List.map_cons, List.map_nil, w_den] at h
  exact h
set_option maxRecDepth 100000 in
theorem l6_3 {a : List Int} (ha : Nm 36 a) {n : Int} (hn : InI n) (hk : n % 12 = 3) (w : World) (hG : GlobD w) : Calls Tryd.prog 13 #[.agg (vals .u64 a), .int .i64 n] w fun e w' => e = .returned (.agg (vals .u64 (g6 n a))) ∧ RowKit.Below w.heap.size w w' := by
  have he : outW (evalF Tryd.prog (XK 3) 0 9 Tryd.f13 [W 36 a, .num .i64 n] [] []) = some (List.replicate 1 (W 36 (all6 (fun i off => po 1 i off a))), [n % 12 = 3 ∧ InI n]) := by kernel_rfl
  have h := fn_out (XK_ok 3).toCxB rfl Tryd.func13 1 he (hp (⟨hk, hn⟩) trivial) (fun v hv => by
    simp only [List.mem_cons, List.not_mem_nil, or_false] at hv
    rcases hv with rfl | rfl
    · exact w_ok ha _
    · trivial) (fun u hu => hG.keep hu)
  rw [w_den, show all6 (fun i off => po 1 i off a) = g6 n a from by
    rw [odd6, g6_eq n ha, show (n % 6).toNat = 3 by omega]] at h
  simp only [List.map_cons, List.map_nil, w_den] at h
  exact h
set_option maxRecDepth 100000 in
theorem l12_4 {a : List Int} (ha : Nm 72 a) {n : Int} (hn : InI n) (hk : n % 12 = 4) (w : World) (hG : GlobD w) : Calls Tryd.prog 11 #[.agg (vals .u64 a), .int .i64 n] w fun e w' => e = .returned (.agg (vals .u64 (g12 n a))) ∧ RowKit.Below w.heap.size w w' := by
  have he : outW (evalF Tryd.prog (XK 4) 0 9 Tryd.f11 [W 72 a, .num .i64 n] [] []) = some (List.replicate 1 (W 72 (all (fun i off => pe 2 i off a))), [n % 12 = 4 ∧ InI n]) := by kernel_rfl
  have h := fn_out (XK_ok 4).toCxB rfl Tryd.func11 1 he (hp (⟨hk, hn⟩) trivial) (fun v hv => by
    simp only [List.mem_cons, List.not_mem_nil, or_false] at hv
    rcases hv with rfl | rfl
    · exact w_ok ha _
    · trivial) (fun u hu => hG.keep hu)
  rw [w_den, show all (fun i off => pe 2 i off a) = g12 n a from by
    rw [even12]
    show _ = F12 (pn (n % 12).toNat (v12 a))
    rw [hk]
    rfl] at h
  simp only [List.map_cons, List.map_nil, w_den] at h
  exact h
set_option maxRecDepth 100000 in
theorem l6_4 {a : List Int} (ha : Nm 36 a) {n : Int} (hn : InI n) (hk : n % 12 = 4) (w : World) (hG : GlobD w) : Calls Tryd.prog 13 #[.agg (vals .u64 a), .int .i64 n] w fun e w' => e = .returned (.agg (vals .u64 (g6 n a))) ∧ RowKit.Below w.heap.size w w' := by
  have he : outW (evalF Tryd.prog (XK 4) 0 9 Tryd.f13 [W 36 a, .num .i64 n] [] []) = some (List.replicate 1 (W 36 (all6 (fun i off => pe 2 i off a))), [n % 12 = 4 ∧ InI n]) := by kernel_rfl
  have h := fn_out (XK_ok 4).toCxB rfl Tryd.func13 1 he (hp (⟨hk, hn⟩) trivial) (fun v hv => by
    simp only [List.mem_cons, List.not_mem_nil, or_false] at hv
    rcases hv with rfl | rfl
    · exact w_ok ha _
    · trivial) (fun u hu => hG.keep hu)
  rw [w_den, show all6 (fun i off => pe 2 i off a) = g6 n a from by
    rw [even6, g6_eq n ha, show (n % 6).toNat = 4 by omega]] at h
  simp only [List.map_cons, List.map_nil, w_den] at h
  exact h
set_option maxRecDepth 100000 in
theorem l12_5 {a : List Int} (ha : Nm 72 a) {n : Int} (hn : InI n) (hk : n % 12 = 5) (w : World) (hG : GlobD w) : Calls Tryd.prog 11 #[.agg (vals .u64 a), .int .i64 n] w fun e w' => e = .returned (.agg (vals .u64 (g12 n a))) ∧ RowKit.Below w.heap.size w w' := by
  have he : outW (evalF Tryd.prog (XK 5) 0 9 Tryd.f11 [W 72 a, .num .i64 n] [] []) = some (List.replicate 1 (W 72 (all (fun i off => po 2 i off a))), [n % 12 = 5 ∧ InI n]) := by kernel_rfl
  have h := fn_out (XK_ok 5).toCxB rfl Tryd.func11 1 he (hp (⟨hk, hn⟩) trivial) (fun v hv => by
    simp only [List.mem_cons, List.not_mem_nil, or_false] at hv
    rcases hv with rfl | rfl
    · exact w_ok ha _
    · trivial) (fun u hu => hG.keep hu)
  rw [w_den, show all (fun i off => po 2 i off a) = g12 n a from by
    rw [odd12]
    show _ = F12 (pn (n % 12).toNat (v12 a))
    rw [hk]
    rfl] at h
  simp only [List.map_cons, List.map_nil, w_den] at h
  exact h
set_option maxRecDepth 100000 in
theorem l6_5 {a : List Int} (ha : Nm 36 a) {n : Int} (hn : InI n) (hk : n % 12 = 5) (w : World) (hG : GlobD w) : Calls Tryd.prog 13 #[.agg (vals .u64 a), .int .i64 n] w fun e w' => e = .returned (.agg (vals .u64 (g6 n a))) ∧ RowKit.Below w.heap.size w w' := by
  have he : outW (evalF Tryd.prog (XK 5) 0 9 Tryd.f13 [W 36 a, .num .i64 n] [] []) = some (List.replicate 1 (W 36 (all6 (fun i off => po 2 i off a))), [n % 12 = 5 ∧ InI n]) := by kernel_rfl
  have h := fn_out (XK_ok 5).toCxB rfl Tryd.func13 1 he (hp (⟨hk, hn⟩) trivial) (fun v hv => by
    simp only [List.mem_cons, List.not_mem_nil, or_false] at hv
    rcases hv with rfl | rfl
    · exact w_ok ha _
    · trivial) (fun u hu => hG.keep hu)
  rw [w_den, show all6 (fun i off => po 2 i off a) = g6 n a from by
    rw [odd6, g6_eq n ha, show (n % 6).toNat = 5 by omega]] at h
  simp only [List.map_cons, List.map_nil, w_den] at h
  exact h
set_option maxRecDepth 100000 in
theorem l12_6 {a : List Int} (ha : Nm 72 a) {n : Int} (hn : InI n) (hk : n % 12 = 6) (w : World) (hG : GlobD w) : Calls Tryd.prog 11 #[.agg (vals .u64 a), .int .i64 n] w fun e w' => e = .returned (.agg (vals .u64 (g12 n a))) ∧ RowKit.Below w.heap.size w w' := by
  have he : outW (evalF Tryd.prog (XK 6) 0 9 Tryd.f11 [W 72 a, .num .i64 n] [] []) = some (List.replicate 1 (W 72 (all (fun i off => pe 3 i off a))), [n % 12 = 6 ∧ InI n]) := by kernel_rfl
  have h := fn_out (XK_ok 6).toCxB rfl Tryd.func11 1 he (hp (⟨hk, hn⟩) trivial) (fun v hv => by
    simp only [List.mem_cons, List.not_mem_nil, or_false] at hv
    rcases hv with rfl | rfl
    · exact w_ok ha _
    · trivial) (fun u hu => hG.keep hu)
  rw [w_den, show all (fun i off => pe 3 i off a) = g12 n a from by
    rw [even12]
    show _ = F12 (pn (n % 12).toNat (v12 a))
    rw [hk]
    rfl] at h
  simp only [List.map_cons, List.map_nil, w_den] at h
  exact h
set_option maxRecDepth 100000 in
theorem l6_6 {a : List Int} (ha : Nm 36 a) {n : Int} (hn : InI n) (hk : n % 12 = 6) (w : World) (hG : GlobD w) : Calls Tryd.prog 13 #[.agg (vals .u64 a), .int .i64 n] w fun e w' => e = .returned (.agg (vals .u64 (g6 n a))) ∧ RowKit.Below w.heap.size w w' := by
  have he : outW (evalF Tryd.prog (XK 6) 0 9 Tryd.f13 [W 36 a, .num .i64 n] [] []) = some (List.replicate 1 (W 36 (all6 (fun i off => pe 3 i off a))), [n % 12 = 6 ∧ InI n]) := by kernel_rfl
  have h := fn_out (XK_ok 6).toCxB rfl Tryd.func13 1 he (hp (⟨hk, hn⟩) trivial) (fun v hv => by
    simp only [List.mem_cons, List.not_mem_nil, or_false] at hv
    rcases hv with rfl | rfl
    · exact w_ok ha _
    · trivial) (fun u hu => hG.keep hu)
  rw [w_den, show all6 (fun i off => pe 3 i off a) = g6 n a from by
    rw [even6, g6_eq n ha, show (n % 6).toNat = 0 by omega]] at h
  simp only [List.map_cons, List.map_nil, w_den] at h
  exact h
set_option maxRecDepth 100000 in
theorem l12_7 {a : List Int} (ha : Nm 72 a) {n : Int} (hn : InI n) (hk : n % 12 = 7) (w : World) (hG : GlobD w) : Calls Tryd.prog 11 #[.agg (vals .u64 a), .int .i64 n] w fun e w' => e = .returned (.agg (vals .u64 (g12 n a))) ∧ RowKit.Below w.heap.size w w' := by
  have he : outW (evalF Tryd.prog (XK 7) 0 9 Tryd.f11 [W 72 a, .num .i64 n] [] []) = some (List.replicate 1 (W 72 (all (fun i off => po 3 i off a))), [n % 12 = 7 ∧ InI n]) := by kernel_rfl
  have h := fn_out (XK_ok 7).toCxB rfl Tryd.func11 1 he (hp (⟨hk, hn⟩) trivial) (fun v hv => by
    simp only [List.mem_cons, List.not_mem_nil, or_false] at hv
    rcases hv with rfl | rfl
    · exact w_ok ha _
    · trivial) (fun u hu => hG.keep hu)
  rw [w_den, show all (fun i off => po 3 i off a) = g12 n a from by
    rw [odd12]
    show _ = F12 (pn (n % 12).toNat (v12 a))
    rw [hk]
    rfl] at h
  simp only [List.map_cons, List.map_nil, w_den] at h
  exact h
set_option maxRecDepth 100000 in
theorem l6_7 {a : List Int} (ha : Nm 36 a) {n : Int} (hn : InI n) (hk : n % 12 = 7) (w : World) (hG : GlobD w) : Calls Tryd.prog 13 #[.agg (vals .u64 a), .int .i64 n] w fun e w' => e = .returned (.agg (vals .u64 (g6 n a))) ∧ RowKit.Below w.heap.size w w' := by
  have he : outW (evalF Tryd.prog (XK 7) 0 9 Tryd.f13 [W 36 a, .num .i64 n] [] []) = some (List.replicate 1 (W 36 (all6 (fun i off => po 3 i off a))), [n % 12 = 7 ∧ InI n]) := by kernel_rfl
  have h := fn_out (XK_ok 7).toCxB rfl Tryd.func13 1 he (hp (⟨hk, hn⟩) trivial) (fun v hv => by
    simp only [List.mem_cons, List.not_mem_nil, or_false] at hv
    rcases hv with rfl | rfl
    · exact w_ok ha _
    · trivial) (fun u hu => hG.keep hu)
  rw [w_den, show all6 (fun i off => po 3 i off a) = g6 n a from by
    rw [odd6, g6_eq n ha, show (n % 6).toNat = 1 by omega]] at h
  simp only [List.map_cons, List.map_nil, w_den] at h
  exact h
set_option maxRecDepth 100000 in
theorem l12_8 {a : List Int} (ha : Nm 72 a) {n : Int} (hn : InI n) (hk : n % 12 = 8) (w : World) (hG : GlobD w) : Calls Tryd.prog 11 #[.agg (vals .u64 a), .int .i64 n] w fun e w' => e = .returned (.agg (vals .u64 (g12 n a))) ∧ RowKit.Below w.heap.size w w' := by
  have he : outW (evalF Tryd.prog (XK 8) 0 9 Tryd.f11 [W 72 a, .num .i64 n] [] []) = some (List.replicate 1 (W 72 (all (fun i off => pe 4 i off a))), [n % 12 = 8 ∧ InI n]) := by kernel_rfl
  have h := fn_out (XK_ok 8).toCxB rfl Tryd.func11 1 he (hp (⟨hk, hn⟩) trivial) (fun v hv => by
    simp only [List.mem_cons, List.not_mem_nil, or_false] at hv
    rcases hv with rfl | rfl
    · exact w_ok ha _
    · trivial) (fun u hu => hG.keep hu)
  rw [w_den, show all (fun i off => pe 4 i off a) = g12 n a from by
    rw [even12]
    show _ = F12 (pn (n % 12).toNat (v12 a))
    rw [hk]
    rfl] at h
  simp only [List.map_cons, List.map_nil, w_den] at h
  exact h
set_option maxRecDepth 100000 in
theorem l6_8 {a : List Int} (ha : Nm 36 a) {n : Int} (hn : InI n) (hk : n % 12 = 8) (w : World) (hG : GlobD w) : Calls Tryd.prog 13 #[.agg (vals .u64 a), .int .i64 n] w fun e w' => e = .returned (.agg (vals .u64 (g6 n a))) ∧ RowKit.Below w.heap.size w w' := by
  have he : outW (evalF Tryd.prog (XK 8) 0 9 Tryd.f13 [W 36 a, .num .i64 n] [] []) = some (List.replicate 1 (W 36 (all6 (fun i off => pe 4 i off a))), [n % 12 = 8 ∧ InI n]) := by kernel_rfl
  have h := fn_out (XK_ok 8).toCxB rfl Tryd.func13 1 he (hp (⟨hk, hn⟩) trivial) (fun v hv => by
    simp only [List.mem_cons, List.not_mem_nil, or_false] at hv
    rcases hv with rfl | rfl
    · exact w_ok ha _
    · trivial) (fun u hu => hG.keep hu)
  rw [w_den, show all6 (fun i off => pe 4 i off a) = g6 n a from by
    rw [even6, g6_eq n ha, show (n % 6).toNat = 2 by omega]] at h
  simp only [List.map_cons, List.map_nil, w_den] at h
  exact h
set_option maxRecDepth 100000 in
theorem l12_9 {a : List Int} (ha : Nm 72 a) {n : Int} (hn : InI n) (hk : n % 12 = 9) (w : World) (hG : GlobD w) : Calls Tryd.prog 11 #[.agg (vals .u64 a), .int .i64 n] w fun e w' => e = .returned (.agg (vals .u64 (g12 n a))) ∧ RowKit.Below w.heap.size w w' := by
  have he : outW (evalF Tryd.prog (XK 9) 0 9 Tryd.f11 [W 72 a, .num .i64 n] [] []) = some (List.replicate 1 (W 72 (all (fun i off => po 4 i off a))), [n % 12 = 9 ∧ InI n]) := by kernel_rfl
  have h := fn_out (XK_ok 9).toCxB rfl Tryd.func11 1 he (hp (⟨hk, hn⟩) trivial) (fun v hv => by
    simp only [List.mem_cons, List.not_mem_nil, or_false] at hv
    rcases hv with rfl | rfl
    · exact w_ok ha _
    · trivial) (fun u hu => hG.keep hu)
  rw [w_den, show all (fun i off => po 4 i off a) = g12 n a from by
    rw [odd12]
    show _ = F12 (pn (n % 12).toNat (v12 a))
    rw [hk]
    rfl] at h
  simp only [List.map_cons, List.map_nil, w_den] at h
  exact h
set_option maxRecDepth 100000 in
theorem l6_9 {a : List Int} (ha : Nm 36 a) {n : Int} (hn : InI n) (hk : n % 12 = 9) (w : World) (hG : GlobD w) : Calls Tryd.prog 13 #[.agg (vals .u64 a), .int .i64 n] w fun e w' => e = .returned (.agg (vals .u64 (g6 n a))) ∧ RowKit.Below w.heap.size w w' := by
  have he : outW (evalF Tryd.prog (XK 9) 0 9 Tryd.f13 [W 36 a, .num .i64 n] [] []) = some (List.replicate 1 (W 36 (all6 (fun i off => po 4 i off a))), [n % 12 = 9 ∧ InI n]) := by kernel_rfl
  have h := fn_out (XK_ok 9).toCxB rfl Tryd.func13 1 he (hp (⟨hk, hn⟩) trivial) (fun v hv => by
    simp only [List.mem_cons, List.not_mem_nil, or_false] at hv
    rcases hv with rfl | rfl
    · exact w_ok ha _
    · trivial) (fun u hu => hG.keep hu)
  rw [w_den, show all6 (fun i off => po 4 i off a) = g6 n a from by
    rw [odd6, g6_eq n ha, show (n % 6).toNat = 3 by omega]] at h
  simp only [List.map_cons, List.map_nil, w_den] at h
  exact h
set_option maxRecDepth 100000 in
theorem l12_10 {a : List Int} (ha : Nm 72 a) {n : Int} (hn : InI n) (hk : n % 12 = 10) (w : World) (hG : GlobD w) : Calls Tryd.prog 11 #[.agg (vals .u64 a), .int .i64 n] w fun e w' => e = .returned (.agg (vals .u64 (g12 n a))) ∧ RowKit.Below w.heap.size w w' := by
  have he : outW (evalF Tryd.prog (XK 10) 0 9 Tryd.f11 [W 72 a, .num .i64 n] [] []) = some (List.replicate 1 (W 72 (all (fun i off => pe 5 i off a))), [n % 12 = 10 ∧ InI n]) := by kernel_rfl
  have h := fn_out (XK_ok 10).toCxB rfl Tryd.func11 1 he (hp (⟨hk, hn⟩) trivial) (fun v hv => by
    simp only [List.mem_cons, List.not_mem_nil, or_false] at hv
    rcases hv with rfl | rfl
    · exact w_ok ha _
    · trivial) (fun u hu => hG.keep hu)
  rw [w_den, show all (fun i off => pe 5 i off a) = g12 n a from by
    rw [even12]
    show _ = F12 (pn (n % 12).toNat (v12 a))
    rw [hk]
    rfl] at h
  simp only [List.map_cons, List.map_nil, w_den] at h
  exact h
set_option maxRecDepth 100000 in
theorem l6_10 {a : List Int} (ha : Nm 36 a) {n : Int} (hn : InI n) (hk : n % 12 = 10) (w : World) (hG : GlobD w) : Calls Tryd.prog 13 #[.agg (vals .u64 a), .int .i64 n] w fun e w' => e = .returned (.agg (vals .u64 (g6 n a))) ∧ RowKit.Below w.heap.size w w' := by
  have he : outW (evalF Tryd.prog (XK 10) 0 9 Tryd.f13 [W 36 a, .num .i64 n] [] []) = some (List.replicate 1 (W 36 (all6 (fun i off => pe 5 i off a))), [n % 12 = 10 ∧ InI n]) := by kernel_rfl
  have h := fn_out (XK_ok 10).toCxB rfl Tryd.func13 1 he (hp (⟨hk, hn⟩) trivial) (fun v hv => by
    simp only [List.mem_cons, List.not_mem_nil, or_false] at hv
    rcases hv with rfl | rfl
    · exact w_ok ha _
    · trivial) (fun u hu => hG.keep hu)
  rw [w_den, show all6 (fun i off => pe 5 i off a) = g6 n a from by
    rw [even6, g6_eq n ha, show (n % 6).toNat = 4 by omega]] at h
  simp only [List.map_cons, List.map_nil, w_den] at h
  exact h
set_option maxRecDepth 100000 in
theorem l12_11 {a : List Int} (ha : Nm 72 a) {n : Int} (hn : InI n) (hk : n % 12 = 11) (w : World) (hG : GlobD w) : Calls Tryd.prog 11 #[.agg (vals .u64 a), .int .i64 n] w fun e w' => e = .returned (.agg (vals .u64 (g12 n a))) ∧ RowKit.Below w.heap.size w w' := by
  have he : outW (evalF Tryd.prog (XK 11) 0 9 Tryd.f11 [W 72 a, .num .i64 n] [] []) = some (List.replicate 1 (W 72 (all (fun i off => po 5 i off a))), [n % 12 = 11 ∧ InI n]) := by kernel_rfl
  have h := fn_out (XK_ok 11).toCxB rfl Tryd.func11 1 he (hp (⟨hk, hn⟩) trivial) (fun v hv => by
    simp only [List.mem_cons, List.not_mem_nil, or_false] at hv
    rcases hv with rfl | rfl
    · exact w_ok ha _
    · trivial) (fun u hu => hG.keep hu)
  rw [w_den, show all (fun i off => po 5 i off a) = g12 n a from by
    rw [odd12]
    show _ = F12 (pn (n % 12).toNat (v12 a))
    rw [hk]
    rfl] at h
  simp only [List.map_cons, List.map_nil, w_den] at h
  exact h
set_option maxRecDepth 100000 in
theorem l6_11 {a : List Int} (ha : Nm 36 a) {n : Int} (hn : InI n) (hk : n % 12 = 11) (w : World) (hG : GlobD w) : Calls Tryd.prog 13 #[.agg (vals .u64 a), .int .i64 n] w fun e w' => e = .returned (.agg (vals .u64 (g6 n a))) ∧ RowKit.Below w.heap.size w w' := by
  have he : outW (evalF Tryd.prog (XK 11) 0 9 Tryd.f13 [W 36 a, .num .i64 n] [] []) = some (List.replicate 1 (W 36 (all6 (fun i off => po 5 i off a))), [n % 12 = 11 ∧ InI n]) := by kernel_rfl
  have h := fn_out (XK_ok 11).toCxB rfl Tryd.func13 1 he (hp (⟨hk, hn⟩) trivial) (fun v hv => by
    simp only [List.mem_cons, List.not_mem_nil, or_false] at hv
    rcases hv with rfl | rfl
    · exact w_ok ha _
    · trivial) (fun u hu => hG.keep hu)
  rw [w_den, show all6 (fun i off => po 5 i off a) = g6 n a from by
    rw [odd6, g6_eq n ha, show (n % 6).toNat = 5 by omega]] at h
  simp only [List.map_cons, List.map_nil, w_den] at h
  exact h
set_option maxRecDepth 100000 in
theorem l2_0 {a : List Int} (ha : Nm 12 a) {n : Int} (hn : InI n) (hk : n.tmod 2 = 0) (w : World) (hG : GlobD w) : Calls Tryd.prog 15 #[.agg (vals .u64 a), .int .i64 n] w fun e w' => e = .returned (.agg (vals .u64 (g2 n a))) ∧ RowKit.Below w.heap.size w w' := by
  have he : outW (evalF Tryd.prog XS 0 9 Tryd.f15 [W 12 a, .num .i64 n] [] [true]) = some (List.replicate 1 (W 12 (F2 (v2 a))), [(2 : Int) ≠ 0, True, qb true (n.tmod 2 = 0)]) := by kernel_rfl
  have h := fn_out XS_ok.toCxB rfl Tryd.func15 1 he (hp (by decide) (hp (trivial) (hp (hk) trivial))) (fun v hv => by
    simp only [List.mem_cons, List.not_mem_nil, or_false] at hv
    rcases hv with rfl | rfl
    · exact w_ok ha _
    · trivial) (fun u hu => hG.keep hu)
  rw [w_den, show F2 (v2 a) = g2 n a from (by rw [g2_eq n ha, show (n % 2).toNat = 0 by have := tm2 n; omega]; rfl)] at h
  simp only [List.map_cons, List.map_nil, w_den] at h
  exact h
set_option maxRecDepth 100000 in
theorem l2_1 {a : List Int} (ha : Nm 12 a) {n : Int} (hn : InI n) (hk : ¬ n.tmod 2 = 0) (w : World) (hG : GlobD w) : Calls Tryd.prog 15 #[.agg (vals .u64 a), .int .i64 n] w fun e w' => e = .returned (.agg (vals .u64 (g2 n a))) ∧ RowKit.Below w.heap.size w w' := by
  have he : outW (evalF Tryd.prog XS 0 9 Tryd.f15 [W 12 a, .num .i64 n] [] [false]) = some (List.replicate 1 (W 12 (F2 (gc (v2 a)))), [(2 : Int) ≠ 0, True, qb false (n.tmod 2 = 0)]) := by kernel_rfl
  have h := fn_out XS_ok.toCxB rfl Tryd.func15 1 he (hp (by decide) (hp (trivial) (hp (hk) trivial))) (fun v hv => by
    simp only [List.mem_cons, List.not_mem_nil, or_false] at hv
    rcases hv with rfl | rfl
    · exact w_ok ha _
    · trivial) (fun u hu => hG.keep hu)
  rw [w_den, show F2 (gc (v2 a)) = g2 n a from (by rw [g2_eq n ha, show (n % 2).toNat = 1 by have := tm2 n; omega]; rfl)] at h
  simp only [List.map_cons, List.map_nil, w_den] at h
  exact h
theorem lFp12 (a : List Int) (ha : Nm 72 a) (n : Int) (hn : InI n) (w : World) (hG : GlobD w) : Calls Tryd.prog 11 #[.agg (vals .u64 a), .int .i64 n] w fun e w' => e = .returned (.agg (vals .u64 (g12 n a))) ∧ RowKit.Below w.heap.size w w' := by
  have h : n % 12 = 0 ∨ n % 12 = 1 ∨ n % 12 = 2 ∨ n % 12 = 3 ∨ n % 12 = 4 ∨ n % 12 = 5 ∨ n % 12 = 6 ∨ n % 12 = 7 ∨ n % 12 = 8 ∨ n % 12 = 9 ∨ n % 12 = 10 ∨ n % 12 = 11 := by omega
  rcases h with h | h | h | h | h | h | h | h | h | h | h | h
  · exact l12_0 ha hn h w hG
  · exact l12_1 ha hn h w hG
  · exact l12_2 ha hn h w hG
  · exact l12_3 ha hn h w hG
  · exact l12_4 ha hn h w hG
  · exact l12_5 ha hn h w hG
  · exact l12_6 ha hn h w hG
  · exact l12_7 ha hn h w hG
  · exact l12_8 ha hn h w hG
  · exact l12_9 ha hn h w hG
  · exact l12_10 ha hn h w hG
  · exact l12_11 ha hn h w hG
theorem lFp6 (a : List Int) (ha : Nm 36 a) (n : Int) (hn : InI n) (w : World) (hG : GlobD w) : Calls Tryd.prog 13 #[.agg (vals .u64 a), .int .i64 n] w fun e w' => e = .returned (.agg (vals .u64 (g6 n a))) ∧ RowKit.Below w.heap.size w w' := by
  have h : n % 12 = 0 ∨ n % 12 = 1 ∨ n % 12 = 2 ∨ n % 12 = 3 ∨ n % 12 = 4 ∨ n % 12 = 5 ∨ n % 12 = 6 ∨ n % 12 = 7 ∨ n % 12 = 8 ∨ n % 12 = 9 ∨ n % 12 = 10 ∨ n % 12 = 11 := by omega
  rcases h with h | h | h | h | h | h | h | h | h | h | h | h
  · exact l6_0 ha hn h w hG
  · exact l6_1 ha hn h w hG
  · exact l6_2 ha hn h w hG
  · exact l6_3 ha hn h w hG
  · exact l6_4 ha hn h w hG
  · exact l6_5 ha hn h w hG
  · exact l6_6 ha hn h w hG
  · exact l6_7 ha hn h w hG
  · exact l6_8 ha hn h w hG
  · exact l6_9 ha hn h w hG
  · exact l6_10 ha hn h w hG
  · exact l6_11 ha hn h w hG
theorem lFp2 (a : List Int) (ha : Nm 12 a) (n : Int) (hn : InI n) (w : World) (hG : GlobD w) : Calls Tryd.prog 15 #[.agg (vals .u64 a), .int .i64 n] w fun e w' => e = .returned (.agg (vals .u64 (g2 n a))) ∧ RowKit.Below w.heap.size w w' := by
  by_cases hk : n.tmod 2 = 0
  · exact l2_0 ha hn hk w hG
  · exact l2_1 ha hn hk w hG
end Go.Proofs.YtpnpiiocpjbffaaDoor.S11O
