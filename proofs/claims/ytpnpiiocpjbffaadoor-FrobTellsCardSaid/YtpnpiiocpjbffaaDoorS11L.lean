/-
  Own text. Statements of layer 11 by the reckoner.
-/
import Derived.Test.YtpnpiiocpjbffaaDoorS11O
import Derived.Test.YtpnpiiocpjbffaaDoorS7P
namespace Go.Proofs.YtpnpiiocpjbffaaDoor.S11L
set_option linter.unusedVariables false
set_option linter.unusedSimpArgs false
open Go Go.RowKit Go.Proofs.YtpnpiiocpjbffaaDoor.Reg Go.Proofs.YtpnpiiocpjbffaaDoor.Base Go.Proofs.YtpnpiiocpjbffaaDoor.Limb Go.Proofs.YtpnpiiocpjbffaaDoor.Sx Go.Proofs.YtpnpiiocpjbffaaDoor.Fp Go.Proofs.YtpnpiiocpjbffaaDoor.Fp2 Go.Proofs.YtpnpiiocpjbffaaDoor.Fp6 Go.Proofs.YtpnpiiocpjbffaaDoor.Fp12 Go.Proofs.YtpnpiiocpjbffaaDoor.Frob Go.Proofs.YtpnpiiocpjbffaaDoor.S11R Go.Proofs.YtpnpiiocpjbffaaDoor.S11M

def TB : List (FuncId × Ent2) := (16, entPn 12 g2) :: (14, entPn 36 g6) :: TQ
theorem nm_g6 (n : Int) (a : List Int) (h : Nm 36 a) : Nm 36 (g6 n a) := by rw [g6_eq n h]; exact Fp6.Nm.F6 _
theorem nm_g2 (n : Int) (a : List Int) (h : Nm 12 a) : Nm 12 (g2 n a) := by rw [g2_eq n h]; exact Fp2.Nm.F2 _
theorem TB_ok : TOk2 Tryd.prog GlobD TB := ⟨ePn Tryd.func16 rfl (by decide) nm_g2 qFp2, ePn Tryd.func14 rfl (by decide) nm_g6 qFp6, TQ_ok⟩
abbrev XB : Cx := ((Cx.of [] (tb LR)).more TB).sym NoD []
theorem XB_ok : CxB Tryd.prog XB GlobD := ((cx_ok (E := []) LR trivial (by kernel_rfl)).more TB_ok).toCxB.sym (fun u h => h) (fun _ _ _ h => h.elim) []
def L00 : List (Fact Tryd.prog GlobD) := S7.lNeg.fact (.con Tryd.func27 rfl (by decide) S7.lNeg) ::
  S7.lConj.fact (.con Tryd.func22 rfl (by decide) S7.lConj) ::
  S7.lReduce.fact (.con Tryd.func26 rfl (by decide) S7.lReduce) ::
  S9.lMul.fact (.con Tryd.func23 rfl (by decide) S9.lMul) ::
  S10.lReduce.fact (.con Tryd.func18 rfl (by decide) S10.lReduce) ::
  S10.lAdd.fact (.con Tryd.func19 rfl (by decide) S10.lAdd) ::
  S10.lNeg.fact (.con Tryd.func28 rfl (by decide) S10.lNeg) ::
  S10.lConj.fact (.con Tryd.func21 rfl (by decide) S10.lConj) ::
  S10.lMul.fact (.con Tryd.func20 rfl (by decide) S10.lMul) ::
  LR
theorem eqok6_ : EqOK Tryd.prog 9998 24 6 := eqok_arr (d := 9996) Tryd.underlying24 Tryd.underlying22 (by kernel_rfl) (by kernel_rfl)
theorem eqok2_ : EqOK Tryd.prog 9999 26 12 := eqok_parts (n := 6) (m := 2) eqok6_ Tryd.underlying24 rfl (by kernel_rfl) Tryd.underlying26 (by kernel_rfl) (by kernel_rfl)
theorem eqokh : EqOK Tryd.prog 10000 28 36 := eqok_parts (n := 12) (m := 3) eqok2_ Tryd.underlying26 rfl (by kernel_rfl) Tryd.underlying28 (by kernel_rfl) (by kernel_rfl)
theorem gdh : Tryd.prog.eqGuardType Tryd.prog.depth 28 = false := by kernel_rfl
/-- Powers: of an own slice of words, of none, of a slice that came in. -/
def entPow2 : Ent2 := fun D bl args => match args with
  | [.agg r, .slc k 0 m _] => match mg r, bl k with
    | some (n, xs), some (_, rr) => match mg rr with
      | some (j, l) => if n = 12 ∧ j = m then some (W 12 (F2 (gp (v2 xs) (num l).toNat)), [m ≤ 10000]) else none
      | none => none
    | _, _ => none
  | [.agg r, .val (.slice none 0 0)] => match mg r with
    | some (n, xs) => if n = 12 then some (W 12 (F2 (gp (v2 xs) 0)), []) else none
    | none => none
  | [.agg r, .ext A m _ l] => match mg r with
    | some (n, xs) => if n = 12 then some (W 12 (F2 (gp (v2 xs) (num l).toNat)), [D A m l, m ≤ 10000]) else none
    | none => none
  | _ => none
theorem ePow2 {F : FuncId} {fn : Func} (hf : Tryd.prog.funcs[F]? = some fn) (hb : fn.body.isNone = false) (hn : (fn.name == "runtime.NumGoroutine") = false)
    (hc : ∀ (a : List Int), Nm 12 a → ∀ (A : Option Addr) (n c : Nat) (l : List Int) (B : Nat) (w : World), GlobD w → Rd w B A n .u64 l → Words l → B ≤ w.heap.size → n ≤ 10000 → Calls Tryd.prog F #[.agg (vals .u64 a), .slice A n c] w fun e w' => e = .returned (.agg (vals .u64 (F2 (gp (v2 a) (num l).toNat)))) ∧ RowKit.Below w.heap.size w w') : EOk2 Tryd.prog GlobD F entPow2 := by
  refine ⟨enter_of hf hb hn, fun G' D bl args v ps gs hG' hD he hH ho w hG hB => ?_⟩
  unfold entPow2 at he
  split at he
  · rename_i r k m cp
    split at he
    · rename_i n xs t rr h1 h2
      split at he
      · rename_i j l h3
        split at he
        · rename_i hcc
          obtain ⟨rfl, rfl⟩ := hcc
          injection he with he
          injection he with e1 e2
          subst e1 e2
          obtain ⟨d1, m1⟩ := agg_vals (gs := gs) (ho (.agg r) (by simp)) h1
          obtain ⟨hh, hr⟩ := hB k t rr h2
          obtain ⟨m3, e3⟩ := mg_ok hr h3
          rw [e3] at hh
          refine ⟨w_ok (Fp2.Nm.F2 _) _, ?_⟩
          rw [w_den]
          simp only [List.map_cons, List.map_nil, d1]
          exact hc xs m1 (some ⟨gs.getD k 0, 0, none⟩) j cp l w.heap.size w (hG' _ hG) (Rd.of_has hh hh.lt (by rw [List.drop_zero, List.take_of_length_le (by rw [m3.len]; exact Nat.le_refl _)]) (by rw [m3.len]; omega)) m3.words (Nat.le_refl _) hH.1
        · cases he
      · cases he
    · cases he
  · rename_i r
    split at he
    · rename_i n xs h1
      split at he
      · rename_i hcc
        subst hcc
        injection he with he
        injection he with e1 e2
        subst e1 e2
        obtain ⟨d1, m1⟩ := agg_vals (gs := gs) (ho (.agg r) (by simp)) h1
        refine ⟨w_ok (Fp2.Nm.F2 _) _, ?_⟩
        rw [w_den]
        simp only [List.map_cons, List.map_nil, d1]
        have := hc xs m1 none 0 0 [] 0 w (hG' _ hG) ⟨rfl, fun h => absurd h (Nat.lt_irrefl _)⟩ words_nil (Nat.zero_le _) (by omega)
        rwa [show (num ([] : List Int)).toNat = 0 by decide] at this
      · cases he
    · cases he
  · rename_i r A m cp l
    split at he
    · rename_i n xs h1
      split at he
      · rename_i hcc
        subst hcc
        injection he with he
        injection he with e1 e2
        subst e1 e2
        obtain ⟨d1, m1⟩ := agg_vals (gs := gs) (ho (.agg r) (by simp)) h1
        obtain ⟨hw, B, hB'⟩ := hD _ _ _ hH.1
        refine ⟨w_ok (Fp2.Nm.F2 _) _, ?_⟩
        rw [w_den]
        simp only [List.map_cons, List.map_nil, d1]
        exact hc xs m1 A m cp l B w (hG' _ hG) (hB' w hG).2 hw (hB' w hG).1 hH.2.1
      · cases he
    · cases he
  · cases he
def GP_ : List (Nat × Row) := [(0, [.nums 6 pL])]
theorem GP_ok : GlOk GlobD GP_ := fun n r h => by
  unfold GP_ lookG at h
  split at h
  · rename_i hn
    subst hn
    obtain rfl := Option.some.inj h
    exact ⟨⟨nm_pL, trivial⟩, fun u hu => hu.p.imp fun t h => S11O.has_nums h⟩
  · cases h
theorem lP : Con Tryd.prog GlobD 24 [] (f0 (W 6 pL)) := .of0 ((cx_ok (E := []) [] trivial (by kernel_rfl)).glob GP_ok) GlobD.keep Tryd.func24 9 [] (zs := W 6 pL) (obs := []) (w_ok nm_pL) rfl ⟨rfl, trivial⟩ (by kernel_rfl)
def L0 : List (Fact Tryd.prog GlobD) := lP.fact (.con Tryd.func24 rfl (by decide) lP) ::
  L00
def TL : List (FuncId × Ent2) := (11, entPn 72 g12) :: (13, entPn 36 g6) :: (15, entPn 12 g2) :: (25, entPow2) :: TB
theorem TL_ok : TOk2 Tryd.prog GlobD TL := ⟨ePn Tryd.func11 rfl (by decide) (fun n a h => Fp12.Nm.F12 _) S11O.lFp12, ePn Tryd.func13 rfl (by decide) nm_g6 S11O.lFp6, ePn Tryd.func15 rfl (by decide) nm_g2 S11O.lFp2, ePow2 Tryd.func25 rfl (by decide) S7P.lPow, TB_ok⟩
abbrev X0 : Cx := ((Cx.of [(26, 12), (28, 36), (30, 72)] (tb L0)).more TL).sym NoD []
theorem X0_ok : CxB Tryd.prog X0 GlobD := ((cx_ok (E := [(26, 12), (28, 36), (30, 72)]) L0 ⟨⟨eqok2, gd2⟩, ⟨eqokh, gdh⟩, ⟨eqokk, gdk⟩, trivial⟩ (by kernel_rfl)).more TL_ok).toCxB.sym (fun u h => h) (fun _ _ _ h => h.elim) []
def U12 : List Int := [0, 0, 0, 0, 0, 0, 1, 0, 0, 0, 0, 0]
theorem nm_U : Nm 12 U12 := ⟨rfl, words_of _ (by decide)⟩
theorem aw1 : g2 1 U12 = F2 (gn (v2 U12)) := (g2_1 nm_U).trans (by decide +kernel)
theorem aw2 : g2 2 U12 = U12 := (g2_2 nm_U).trans (by decide +kernel)
theorem aw3 : g12 6 W72d = F12 (kn (v12 W72d)) := (g12_6 _).trans (by decide +kernel)
theorem aw4 : g12 12 W72d = W72d := (show g12 12 W72d = F12 (v12 W72d) from rfl).trans (by decide +kernel)
set_option maxRecDepth 100000 in
theorem awake  (w : World) (hG0 : GlobD w) : Calls Tryd.prog 10 #[] w fun e w' => e = .returned (.bool true) ∧ RowKit.Below w.heap.size w w' := by
  have hG : ∀ u, RowKit.Below w.heap.size w u → GlobD u := fun u hu => hG0.keep hu
  have he : evalF Tryd.prog X0 0 9 Tryd.f10 [] [] [true, true, true, true] = some ([.val (.bool true)], [InI 1, qb true (g2 1 U12 = F2 (gn (v2 U12))), InI 2, qb true (g2 2 U12 = U12), InI 6, qb true (g12 6 W72d = F12 (kn (v12 W72d))), InI 12, qb true (g12 12 W72d = W72d)]) := by kernel_rfl
  have h := fn_okH (gs := []) (w := w) X0_ok (fun c _ id c' f h => by rw [hooked_nil] at h; cases h) Tryd.func10 he (hp (by decide) (hp (aw1) (hp (by decide) (hp (aw2) (hp (by decide) (hp (aw3) (hp (by decide) (hp (aw4) trivial)))))))) rfl rfl (fun v hv => by
    cases hv) hG (fun k t r h => by simp at h)
  simp only [List.map_cons, List.map_nil, w_den] at h
  exact h.mono fun e w' ⟨v, hv, e1, _, e2⟩ => by
    obtain rfl := List.mem_singleton.1 hv
    exact ⟨by rw [e1]; rfl, e2⟩
/-- A statement's head: true. -/
def entTrue : Ent2 := fun D bl args => match args with
  | [] => some (.val (.bool true), [])
  | _ => none
theorem eTrue {F : FuncId} {fn : Func} (hf : Tryd.prog.funcs[F]? = some fn) (hb : fn.body.isNone = false) (hn : (fn.name == "runtime.NumGoroutine") = false)
    (hc : ∀ w, GlobD w → Calls Tryd.prog F #[] w fun e w' => e = .returned (.bool true) ∧ RowKit.Below w.heap.size w w') : EOk2 Tryd.prog GlobD F entTrue := by
  refine ⟨enter_of hf hb hn, fun G' D bl args v ps gs hG' hD he hH ho w hG hB => ?_⟩
  unfold entTrue at he
  split at he
  · injection he with he
    injection he with e1 e2
    subst e1 e2
    exact ⟨trivial, hc w (hG' _ hG)⟩
  · cases he
def TS : List (FuncId × Ent2) := (10, entTrue) :: TL
theorem TS_ok : TOk2 Tryd.prog GlobD TS := ⟨eTrue Tryd.func10 rfl (by decide) awake, TL_ok⟩
abbrev X1 : Cx := ((Cx.of [(26, 12), (28, 36), (30, 72)] (tb L0)).more TS).sym NoD []
theorem X1_ok : CxB Tryd.prog X1 GlobD := ((cx_ok (E := [(26, 12), (28, 36), (30, 72)]) L0 ⟨⟨eqok2, gd2⟩, ⟨eqokh, gdh⟩, ⟨eqokk, gdk⟩, trivial⟩ (by kernel_rfl)).more TS_ok).toCxB.sym (fun u h => h) (fun _ _ _ h => h.elim) []
set_option maxRecDepth 100000 in
theorem squares (a : List Int) (ha : Nm 72 a) (w : World) (hG0 : GlobD w) : Calls Tryd.prog 4 #[.agg (vals .u64 a)] w fun e w' => e = .returned (.bool true) ∧ RowKit.Below w.heap.size w w' := by
  have hG : ∀ u, RowKit.Below w.heap.size w u → GlobD u := fun u hu => hG0.keep hu
  have he : evalF Tryd.prog X1 0 9 Tryd.f4 [W 72 a] [] [true] = some ([.val (.bool true)], [InI 2, InI 2, qb true (g12 2 a = g12 2 a)]) := by kernel_rfl
  have h := fn_okH (gs := []) (w := w) X1_ok (fun c _ id c' f h => by rw [hooked_nil] at h; cases h) Tryd.func4 he (hp (by decide) (hp (by decide) (hp (rfl) trivial))) rfl rfl (fun v hv => by
    simp only [List.mem_cons, List.not_mem_nil, or_false] at hv
    subst hv
    exact w_ok ha _) hG (fun k t r h => by simp at h)
  simp only [List.map_cons, List.map_nil, w_den] at h
  exact h.mono fun e w' ⟨v, hv, e1, _, e2⟩ => by
    obtain rfl := List.mem_singleton.1 hv
    exact ⟨by rw [e1]; rfl, e2⟩
set_option maxRecDepth 100000 in
theorem half (a : List Int) (ha : Nm 72 a) (b : List Int) (hb : Nm 12 b) (k : List Int) (hk : Nm 6 k) (n : Int) (hn : InI n) (w : World) (hG0 : GlobD w) : Calls Tryd.prog 7 #[.agg (vals .u64 a), .agg (vals .u64 b), .agg (vals .u64 k), .int .i64 n] w fun e w' => e = .returned (.bool true) ∧ RowKit.Below w.heap.size w w' := by
  have hG : ∀ u, RowKit.Below w.heap.size w u → GlobD u := fun u hu => hG0.keep hu
  have he : evalF Tryd.prog X1 0 9 Tryd.f7 [W 72 a, W 12 b, W 6 k, .num .i64 n] [] [true, true, true] = some ([.val (.bool true)], [InI 6, qb true (g12 6 a = F12 (kc (v12 a))), InI 1, qb true (g2 1 b = F2 (gc (v2 b))), InI n, qb true (g12 n (k ++ List.replicate 6 0 ++ List.replicate 24 0 ++ N36z) = F12 (v12 (k ++ List.replicate 6 0 ++ List.replicate 24 0 ++ N36z)))]) := by kernel_rfl
  have h := fn_okH (gs := []) (w := w) X1_ok (fun c _ id c' f h => by rw [hooked_nil] at h; cases h) Tryd.func7 he (hp (by decide) (hp (g12_6 a) (hp (by decide) (hp (g2_1 hb) (hp (hn) (hp (g12_base n hk) trivial)))))) rfl rfl (fun v hv => by
    simp only [List.mem_cons, List.not_mem_nil, or_false] at hv
    rcases hv with rfl | rfl | rfl | rfl
    · exact w_ok ha _
    · exact w_ok hb _
    · exact w_ok hk _
    · trivial) hG (fun k t r h => by simp at h)
  simp only [List.map_cons, List.map_nil, w_den] at h
  exact h.mono fun e w' ⟨v, hv, e1, _, e2⟩ => by
    obtain rfl := List.mem_singleton.1 hv
    exact ⟨by rw [e1]; rfl, e2⟩
set_option maxRecDepth 100000 in
theorem tells (a : List Int) (ha : Nm 72 a) (w : World) (hG0 : GlobD w) : Calls Tryd.prog 3 #[.agg (vals .u64 a)] w fun e w' => e = .returned (.bool true) ∧ RowKit.Below w.heap.size w w' := by
  have hG : ∀ u, RowKit.Below w.heap.size w u → GlobD u := fun u hu => hG0.keep hu
  have he : evalF Tryd.prog X1 0 9 Tryd.f3 [W 72 a] [] [true, true, true] = some ([.val (.bool true)], [InI 1, InI 1, qb true (g12 1 a = g12 1 a), InI 1, InI 1, qb true (g6 1 (seg 0 36 a) = g6 1 (seg 0 36 a)), InI 1, InI 1, qb true (g2 1 (seg 0 12 a) = g2 1 (seg 0 12 a))]) := by kernel_rfl
  have h := fn_okH (gs := []) (w := w) X1_ok (fun c _ id c' f h => by rw [hooked_nil] at h; cases h) Tryd.func3 he (hp (by decide) (hp (by decide) (hp (rfl) (hp (by decide) (hp (by decide) (hp (rfl) (hp (by decide) (hp (by decide) (hp (rfl) trivial))))))))) rfl rfl (fun v hv => by
    simp only [List.mem_cons, List.not_mem_nil, or_false] at hv
    subst hv
    exact w_ok ha _) hG (fun k t r h => by simp at h)
  simp only [List.map_cons, List.map_nil, w_den] at h
  exact h.mono fun e w' ⟨v, hv, e1, _, e2⟩ => by
    obtain rfl := List.mem_singleton.1 hv
    exact ⟨by rw [e1]; rfl, e2⟩
set_option maxRecDepth 100000 in
theorem within (a : List Int) (ha : Nm 36 a) (b : List Int) (hb : Nm 12 b) (n : Int) (hn : InI n) (w : World) (hG0 : GlobD w) : Calls Tryd.prog 8 #[.agg (vals .u64 a), .agg (vals .u64 b), .int .i64 n] w fun e w' => e = .returned (.bool true) ∧ RowKit.Below w.heap.size w w' := by
  have hG : ∀ u, RowKit.Below w.heap.size w u → GlobD u := fun u hu => hG0.keep hu
  have he : evalF Tryd.prog X1 0 9 Tryd.f8 [W 36 a, W 12 b, .num .i64 n] [] [true, true, true] = some ([.val (.bool true)], [InI n, InI n, qb true (g12 n (a ++ N36z) = g6 n a ++ N36z), InI n, InI n, qb true (g6 n (b ++ List.replicate 24 0) = g2 n b ++ List.replicate 24 0), InI n, InI n, InI n, qb true (g6 n (F6 (hm (v6 a) (v6 a))) = F6 (hm (v6 (g6 n a)) (v6 (g6 n a))))]) := by kernel_rfl
  have h := fn_okH (gs := []) (w := w) X1_ok (fun c _ id c' f h => by rw [hooked_nil] at h; cases h) Tryd.func8 he (hp (hn) (hp (hn) (hp (g12_g6 n ha) (hp (hn) (hp (hn) (hp (g6_g2 n hb) (hp (hn) (hp (hn) (hp (hn) (hp (g6_mul n ha ha) trivial)))))))))) rfl rfl (fun v hv => by
    simp only [List.mem_cons, List.not_mem_nil, or_false] at hv
    rcases hv with rfl | rfl | rfl
    · exact w_ok ha _
    · exact w_ok hb _
    · trivial) hG (fun k t r h => by simp at h)
  simp only [List.map_cons, List.map_nil, w_den] at h
  exact h.mono fun e w' ⟨v, hv, e1, _, e2⟩ => by
    obtain rfl := List.mem_singleton.1 hv
    exact ⟨by rw [e1]; rfl, e2⟩
set_option maxRecDepth 100000 in
theorem steps (a : List Int) (ha : Nm 72 a) (n : Int) (hn : InI n) (w : World) (hG0 : GlobD w) : Calls Tryd.prog 5 #[.agg (vals .u64 a), .int .i64 n] w fun e w' => e = .returned (.bool true) ∧ RowKit.Below w.heap.size w w' := by
  have hG : ∀ u, RowKit.Below w.heap.size w u → GlobD u := fun u hu => hG0.keep hu
  have he : evalF Tryd.prog X1 0 9 Tryd.f5 [W 72 a, .num .i64 n] [] [true, true, true, true, true, true] = some ([.val (.bool true)], [InI n, 0 < (12 : Int) ∧ (12 : Int) ≤ 12, InI n, InI (n % 12), qb true (g12 n a = g12 (n % 12) a), InI 1, IntKind.i64.wrap (n % 12 + 1) = n % 12 + 1, InI (n % 12 + 1), qb true (g12 1 (g12 n a) = g12 (n % 12 + 1) a), InI (n % 12), IntKind.i64.wrap (-(n % 12)) = -(n % 12), InI (-(n % 12)), qb true (g12 (-(n % 12)) (g12 (n % 12) a) = F12 (v12 a)), InI n, InI n, 0 < (6 : Int) ∧ (6 : Int) ≤ 12, InI (n % 6), qb true (g6 n (seg 0 36 a) = g6 (n % 6) (seg 0 36 a)), InI n, InI n, 0 < (2 : Int) ∧ (2 : Int) ≤ 12, InI (n % 2), qb true (g2 n (seg 0 12 a) = g2 (n % 2) (seg 0 12 a)), InI 0, qb true (g12 0 a = F12 (v12 a))]) := by kernel_rfl
  have h := fn_okH (gs := []) (w := w) X1_ok (fun c _ id c' f h => by rw [hooked_nil] at h; cases h) Tryd.func5 he (hp (hn) (hp (by decide) (hp (hn) (hp (by omega) (hp ((g12_mod n a).symm) (hp (by decide) (hp (IntWalk.i64_in _ (by omega)) (hp (by omega) (hp (g12_step n a) (hp (by omega) (hp (IntWalk.i64_in _ (by omega)) (hp (by omega) (hp (g12_back n a) (hp (hn) (hp (hn) (hp (by decide) (hp (by omega) (hp ((g6_mod n _).symm) (hp (hn) (hp (hn) (hp (by decide) (hp (by omega) (hp ((g2_mod n _).symm) (hp (by decide) (hp (g12_0 a) trivial))))))))))))))))))))))))) rfl rfl (fun v hv => by
    simp only [List.mem_cons, List.not_mem_nil, or_false] at hv
    rcases hv with rfl | rfl
    · exact w_ok ha _
    · trivial) hG (fun k t r h => by simp at h)
  simp only [List.map_cons, List.map_nil, w_den] at h
  exact h.mono fun e w' ⟨v, hv, e1, _, e2⟩ => by
    obtain rfl := List.mem_singleton.1 hv
    exact ⟨by rw [e1]; rfl, e2⟩
set_option maxRecDepth 100000 in
theorem sums (a : List Int) (ha : Nm 72 a) (b : List Int) (hb : Nm 72 b) (n : Int) (hn : InI n) (w : World) (hG0 : GlobD w) : Calls Tryd.prog 6 #[.agg (vals .u64 a), .agg (vals .u64 b), .int .i64 n] w fun e w' => e = .returned (.bool true) ∧ RowKit.Below w.heap.size w w' := by
  have hG : ∀ u, RowKit.Below w.heap.size w u → GlobD u := fun u hu => hG0.keep hu
  have he : evalF Tryd.prog X1 0 9 Tryd.f6 [W 72 a, W 72 b, .num .i64 n] [] [true, true] = some ([.val (.bool true)], [InI n, InI n, InI n, qb true (g12 n (F12 (ka (v12 a) (v12 b))) = F12 (ka (v12 (g12 n a)) (v12 (g12 n b)))), InI n, qb true (g12 n (F12 (km (v12 a) (v12 b))) = F12 (km (v12 (g12 n a)) (v12 (g12 n b))))]) := by kernel_rfl
  have h := fn_okH (gs := []) (w := w) X1_ok (fun c _ id c' f h => by rw [hooked_nil] at h; cases h) Tryd.func6 he (hp (hn) (hp (hn) (hp (hn) (hp (g12_add n a b) (hp (hn) (hp (g12_mul n a b) trivial)))))) rfl rfl (fun v hv => by
    simp only [List.mem_cons, List.not_mem_nil, or_false] at hv
    rcases hv with rfl | rfl | rfl
    · exact w_ok ha _
    · exact w_ok hb _
    · trivial) hG (fun k t r h => by simp at h)
  simp only [List.map_cons, List.map_nil, w_den] at h
  exact h.mono fun e w' ⟨v, hv, e1, _, e2⟩ => by
    obtain rfl := List.mem_singleton.1 hv
    exact ⟨by rw [e1]; rfl, e2⟩
set_option maxRecDepth 100000 in
theorem powers (a : List Int) (ha : Nm 12 a) (w : World) (hG0 : GlobD w) : Calls Tryd.prog 9 #[.agg (vals .u64 a)] w fun e w' => e = .returned (.bool true) ∧ RowKit.Below w.heap.size w w' := by
  have hG : ∀ u, RowKit.Below w.heap.size w u → GlobD u := fun u hu => hG0.keep hu
  have he : evalF Tryd.prog X1 0 9 Tryd.f9 [W 12 a] [] [true, true] = some ([.val (.bool true)], [InI 1, 6 ≤ 10000, qb true (g2 1 a = F2 (gp (v2 a) (num pL).toNat)), InI 2, qb true (g2 2 a = F2 (v2 a))]) := by kernel_rfl
  have h := fn_okH (gs := []) (w := w) X1_ok (fun c _ id c' f h => by rw [hooked_nil] at h; cases h) Tryd.func9 he (hp (by decide) (hp (by decide) (hp (g2_pow ha) (hp (by decide) (hp (g2_2 ha) trivial))))) rfl rfl (fun v hv => by
    simp only [List.mem_cons, List.not_mem_nil, or_false] at hv
    subst hv
    exact w_ok ha _) hG (fun k t r h => by simp at h)
  simp only [List.map_cons, List.map_nil, w_den] at h
  exact h.mono fun e w' ⟨v, hv, e1, _, e2⟩ => by
    obtain rfl := List.mem_singleton.1 hv
    exact ⟨by rw [e1]; rfl, e2⟩
--MORE
end Go.Proofs.YtpnpiiocpjbffaaDoor.S11L
