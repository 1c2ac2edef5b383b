/-
  Own text. Layer 11, the document's answer by the reckoner.
-/
import Derived.Test.YtpnpiiocpjbffaaDoorS10Q
import Derived.Test.YtpnpiiocpjbffaaDoorMFrob
import Derived.Test.YtpnpiiocpjbffaaDoorFrobTimes
namespace Go.Proofs.YtpnpiiocpjbffaaDoor.S11R
set_option linter.unusedVariables false
set_option linter.unusedSimpArgs false
open Go Go.RowKit Go.Proofs.YtpnpiiocpjbffaaDoor.Reg Go.Proofs.YtpnpiiocpjbffaaDoor.Base Go.Proofs.YtpnpiiocpjbffaaDoor.Limb Go.Proofs.YtpnpiiocpjbffaaDoor.Sx Go.Proofs.YtpnpiiocpjbffaaDoor.Fp Go.Proofs.YtpnpiiocpjbffaaDoor.Fp2 Go.Proofs.YtpnpiiocpjbffaaDoor.Fp6 Go.Proofs.YtpnpiiocpjbffaaDoor.Fp12 Go.Proofs.YtpnpiiocpjbffaaDoor.S10P Go.Proofs.YtpnpiiocpjbffaaDoor.Frob

/-- Powers: of an own slice of words, of none, of a slice that came in. -/
def entPow : Ent2 := fun D bl args => match args with
  | [.agg r, .slc k 0 m _] => match mg r, bl k with
    | some (n, xs), some (_, rr) => match mg rr with
      | some (j, l) => if n = 72 ∧ j = m then some (W 72 (F12 (kp (v12 xs) (num l).toNat)), [m ≤ 10000]) else none
      | none => none
    | _, _ => none
  | [.agg r, .val (.slice none 0 0)] => match mg r with
    | some (n, xs) => if n = 72 then some (W 72 (F12 (kp (v12 xs) 0)), []) else none
    | none => none
  | [.agg r, .ext A m _ l] => match mg r with
    | some (n, xs) => if n = 72 then some (W 72 (F12 (kp (v12 xs) (num l).toNat)), [D A m l, m ≤ 10000]) else none
    | none => none
  | _ => none
theorem ePow {F : FuncId} {fn : Func} (hf : Tryd.prog.funcs[F]? = some fn) (hb : fn.body.isNone = false) (hn : (fn.name == "runtime.NumGoroutine") = false)
    (hc : ∀ (a : List Int), Nm 72 a → ∀ (A : Option Addr) (n c : Nat) (l : List Int) (B : Nat) (w : World), GlobD w → Rd w B A n .u64 l → Words l → B ≤ w.heap.size → n ≤ 10000 → Calls Tryd.prog F #[.agg (vals .u64 a), .slice A n c] w fun e w' => e = .returned (.agg (vals .u64 (F12 (kp (v12 a) (num l).toNat)))) ∧ RowKit.Below w.heap.size w w') : EOk2 Tryd.prog GlobD F entPow := by
  refine ⟨enter_of hf hb hn, fun G' D bl args v ps gs hG' hD he hH ho w hG hB => ?_⟩
  unfold entPow at he
  split at he
  · rename_i r k m cp
    split at he
    · rename_i n xs t rr h1 h2
      split at he
      · rename_i j l h3
        split at he
        · rename_i hcc
          obtain ⟨rfl, rfl⟩ := hcc
          injection he with he
          injection he with e1 e2
          subst e1 e2
          obtain ⟨d1, m1⟩ := agg_vals (gs := gs) (ho (.agg r) (by simp)) h1
          obtain ⟨hh, hr⟩ := hB k t rr h2
          obtain ⟨m3, e3⟩ := mg_ok hr h3
          rw [e3] at hh
          refine ⟨w_ok (Fp12.Nm.F12 _) _, ?_⟩
          rw [w_den]
          simp only [List.map_cons, List.map_nil, d1]
          exact hc xs m1 (some ⟨gs.getD k 0, 0, none⟩) j cp l w.heap.size w (hG' _ hG) (Rd.of_has hh hh.lt (by rw [List.drop_zero, List.take_of_length_le (by rw [m3.len]; exact Nat.le_refl _)]) (by rw [m3.len]; omega)) m3.words (Nat.le_refl _) hH.1
        · cases he
      · cases he
    · cases he
  · rename_i r
    split at he
    · rename_i n xs h1
      split at he
      · rename_i hcc
        subst hcc
        injection he with he
        injection he with e1 e2
        subst e1 e2
        obtain ⟨d1, m1⟩ := agg_vals (gs := gs) (ho (.agg r) (by simp)) h1
        refine ⟨w_ok (Fp12.Nm.F12 _) _, ?_⟩
        rw [w_den]
        simp only [List.map_cons, List.map_nil, d1]
        have := hc xs m1 none 0 0 [] 0 w (hG' _ hG) ⟨rfl, fun h => absurd h (Nat.lt_irrefl _)⟩ words_nil (Nat.zero_le _) (by omega)
        rwa [show (num ([] : List Int)).toNat = 0 by decide] at this
      · cases he
    · cases he
  · rename_i r A m cp l
    split at he
    · rename_i n xs h1
      split at he
      · rename_i hcc
        subst hcc
        injection he with he
        injection he with e1 e2
        subst e1 e2
        obtain ⟨d1, m1⟩ := agg_vals (gs := gs) (ho (.agg r) (by simp)) h1
        obtain ⟨hw, B, hB'⟩ := hD _ _ _ hH.1
        refine ⟨w_ok (Fp12.Nm.F12 _) _, ?_⟩
        rw [w_den]
        simp only [List.map_cons, List.map_nil, d1]
        exact hc xs m1 A m cp l B w (hG' _ hG) (hB' w hG).2 hw (hB' w hG).1 hH.2.1
      · cases he
    · cases he
  · cases he
abbrev InI (n : Int) : Prop := -9223372036854775808 ≤ n ∧ n ≤ 9223372036854775807
/-- A number modulo another one. -/
def entTimes : Ent2 := fun D bl args => match args with
  | [x, y] => match numOf x, numOf y with
    | some (.i64, n), some (.i64, m) => some (.num .i64 (n % m), [InI n, 0 < m ∧ m ≤ 12])
    | _, _ => none
  | _ => none
theorem eTimes : EOk2 Tryd.prog GlobD 17 entTimes := by
  refine ⟨enter_of Tryd.func17 (by decide) (by decide), fun G' D bl args v ps gs hG' hD he hH ho w hG hB => ?_⟩
  unfold entTimes at he
  split at he
  · rename_i x y
    split at he
    · rename_i n m h1 h2
      injection he with he
      injection he with e1 e2
      subst e1 e2
      obtain ⟨h3, h4, _⟩ := hH
      refine ⟨trivial, ?_⟩
      simp only [List.map_cons, List.map_nil, numOf_den h1, numOf_den h2]
      exact (times_c n m h3 h4 w).mono fun e w' ⟨h, h'⟩ => ⟨h, h' ▸ RowKit.Below.refl _ _⟩
    · cases he
  · cases he
theorem nm_pL : Nm 6 pL := ⟨rfl, pL_words⟩
set_option maxRecDepth 100000 in
theorem qP : Con Tryd.prog GlobD 30 [] (f0 (W 6 pL)) := .of0 S10.X0_ok GlobD.keep Tryd.func30 9 [] (zs := W 6 pL) (obs := []) (w_ok nm_pL) rfl ⟨rfl, trivial⟩ (by kernel_rfl)
def LR : List (Fact Tryd.prog GlobD) := S10.qReduce.fact (.con Tryd.func31 rfl (by decide) S10.qReduce) ::
  qP.fact (.con Tryd.func30 rfl (by decide) qP) ::
  []
def TR : List (FuncId × Ent2) := [(17, entTimes), (32, entPow)]
theorem TR_ok : TOk2 Tryd.prog GlobD TR := ⟨eTimes, ePow Tryd.func32 rfl (by decide) (fun a ha A n c l B w hG hr hw hB hn => S10Q.qPow a ha A n c l B w hG hr hw hB hn), trivial⟩
abbrev NoD : Option Addr → Nat → List Int → Prop := fun _ _ _ => False
abbrev XR (H : List (Nat × Ev)) : Cx := ((Cx.of [] (tb LR)).more TR).sym NoD H
theorem XR_ok (H : List (Nat × Ev)) : CxB Tryd.prog (XR H) GlobD := ((cx_ok (E := []) LR trivial (by kernel_rfl)).more TR_ok).toCxB.sym (fun u h => h) (fun _ _ _ h => h.elim) H
def b4 (a o : List Int) : List Bk := [(30, [.nums 72 a]), (30, [.nums 72 Z72]), (24, [.nums 6 pL]), (30, [.nums 72 o])]
section
variable (a o : List Int) (n : Int)
def r1 (i : Nat) : St := ⟨mkSl 21 [(1, .num .i64 n), (2, .ptr 0 0), (4, .ptr 1 0), (5, .ptr 2 0), (6, .ptr 3 0), (7, .num .i64 i)], b4 a o⟩
def r1e : St := ⟨mkSl 21 [(4, .ptr 1 0), (6, .ptr 3 0)], b4 a o⟩
end
theorem pP : (num pL).toNat = PP.toNat := by rw [num_pL]
section
variable {a o o' : List Int} {n : Int} {S : Nat} {w : World}
theorem does (hG : ∀ u, RowKit.Below S w u → GlobD u) (c : Code) : Does Tryd.prog S 0 w c (evalC Tryd.prog (XR []) 0 9 c) := code_ok (XR_ok []) hG c (fun _ _ _ h => by rw [hooked_nil] at h; cases h)
set_option maxRecDepth 100000 in
theorem rnd {i : Nat} (hI : InI n) (hi : (i : Int) < n % 12) (hrow : F12 (kp (v12 o) (num pL).toNat) = o') (hG : ∀ u, RowKit.Below S w u → GlobD u) : Goes Tryd.prog S 0 w (lpc Tryd.f12 0) (r1 a o n i) .nrm (r1 a o' n (i + 1)) :=
  (does hG _).goes [true] (ps := [n = n, (i : Int) + 1 = ((i + 1 : Nat) : Int), a = a, Z72 = Z72, pL = pL, F12 (kp (v12 o) (num pL).toNat) = o', InI n, 0 < (12 : Int) ∧ (12 : Int) ≤ 12, qb true ((i : Int) < n % 12), 6 ≤ 10000, IntKind.i64.wrap ((i : Int) + 1) = (i : Int) + 1]) (by kernel_rfl) (hp (rfl) (hp (by omega) (hp (rfl) (hp (rfl) (hp (rfl) (hp (hrow) (hp (hI) (hp (by decide) (hp (hi) (hp (by decide) (hp (IntWalk.i64_in _ (by omega)) trivial))))))))))) (by kernel_rfl)
set_option maxRecDepth 100000 in
theorem end_ {i : Nat} (hI : InI n) (hi : ¬ (i : Int) < n % 12) (hG : ∀ u, RowKit.Below S w u → GlobD u) : Goes Tryd.prog S 0 w (lpc Tryd.f12 0) (r1 a o n i) (.ext 0) (r1e a o) :=
  (does hG _).goes [false] (ps := [a = a, Z72 = Z72, pL = pL, o = o, InI n, 0 < (12 : Int) ∧ (12 : Int) ≤ 12, qb false ((i : Int) < n % 12)]) (by kernel_rfl) (hp (rfl) (hp (rfl) (hp (rfl) (hp (rfl) (hp (hI) (hp (by decide) (hp (hi) trivial))))))) (by kernel_rfl)
theorem loop (hI : InI n) (hG : ∀ u, RowKit.Below S w u → GlobD u) : Goes Tryd.prog S 0 w (.block 0 (.loop (lpc Tryd.f12 0))) (r1 a (F12 (v12 a)) n 0) .nrm (r1e a (F12 (pn (n % 12).toNat (v12 a)))) :=
  .loop (n := (n % 12).toNat) (fun i => r1 a (F12 (pn i (v12 a))) n i) (fun i hi => rnd hI (by omega) (by rw [pP]; exact F12_eq (ph_congr (v12_F12 _))) hG) (end_ hI (by omega) hG)
end
theorem blk0 : blkc Tryd.f12 0 = .loop (lpc Tryd.f12 0) := by kernel_rfl
set_option maxRecDepth 100000 in
theorem qFp12 (a : List Int) (ha : Nm 72 a) (n : Int) (hI : InI n) (w : World) (hG0 : GlobD w) : Calls Tryd.prog 12 #[.agg (vals .u64 a), .int .i64 n] w fun e w' => e = .returned (.agg (vals .u64 (F12 (pn (n % 12).toNat (v12 a))))) ∧ RowKit.Below w.heap.size w w' := by
  have hG : ∀ u, RowKit.Below w.heap.size w u → GlobD u := fun u hu => hG0.keep hu
  have hk : AllH Tryd.prog w.heap.size 0 w [(0, blkc Tryd.f12 0, hookEv (r1 a (F12 (v12 a)) n 0) (r1e a (F12 (pn (n % 12).toNat (v12 a)))))] := ⟨by rw [blk0]; exact (loop hI hG).does (by kernel_rfl), trivial⟩
  have he : evalF Tryd.prog (XR [(0, hookEv (r1 a (F12 (v12 a)) n 0) (r1e a (F12 (pn (n % 12).toNat (v12 a)))))]) 0 9 Tryd.f12 [W 72 a, .num .i64 n] [] [] = some ([.agg [.nums 72 (F12 (pn (n % 12).toNat (v12 a)))]], [n = n, (0 : Int) = ((0 : Nat) : Int), a = a, Z72 = Z72, pL = pL, F12 (v12 a) = F12 (v12 a)]) := by kernel_rfl
  have h := fn_okH (gs := []) (w := w) (XR_ok [(0, hookEv (r1 a (F12 (v12 a)) n 0) (r1e a (F12 (pn (n % 12).toNat (v12 a)))))]) (fn_hooks (by kernel_rfl) hk) Tryd.func12 he (hp (rfl) (hp (rfl) (hp (rfl) (hp (rfl) (hp (rfl) (hp (rfl) trivial)))))) rfl rfl (fun v hv => by
    rcases List.mem_cons.1 hv with rfl | hv
    · exact w_ok ha _
    · rcases List.mem_cons.1 hv with rfl | hv
      · trivial
      · cases hv) hG (fun k t r h => by simp at h)
  simp only [List.map_cons, List.map_nil, w_den] at h
  exact h.mono fun e w' ⟨v, hv, e1, _, e2⟩ => by
    obtain rfl := List.mem_singleton.1 hv
    exact ⟨by rw [e1, w_den], e2⟩
/-- A power of p of a number in any of the three. -/
def entPn (k : Nat) (f : Int → List Int → List Int) : Ent2 := fun D bl args => match args with
  | [.agg r, x] => match mg r, numOf x with
    | some (n, xs), some (.i64, j) => if n = k then some (W k (f j xs), [InI j]) else none
    | _, _ => none
  | _ => none
theorem ePn {F : FuncId} {fn : Func} {k : Nat} {f : Int → List Int → List Int} (hf : Tryd.prog.funcs[F]? = some fn) (hb : fn.body.isNone = false) (hn : (fn.name == "runtime.NumGoroutine") = false)
    (hN : ∀ n a, Nm k a → Nm k (f n a)) (hc : ∀ (a : List Int), Nm k a → ∀ n, InI n → ∀ w, GlobD w → Calls Tryd.prog F #[.agg (vals .u64 a), .int .i64 n] w fun e w' => e = .returned (.agg (vals .u64 (f n a))) ∧ RowKit.Below w.heap.size w w') : EOk2 Tryd.prog GlobD F (entPn k f) := by
  refine ⟨enter_of hf hb hn, fun G' D bl args v ps gs hG' hD he hH ho w hG hB => ?_⟩
  unfold entPn at he
  split at he
  · rename_i r x
    split at he
    · rename_i n xs j h1 h2
      split at he
      · rename_i hk
        subst hk
        injection he with he
        injection he with e1 e2
        subst e1 e2
        obtain ⟨d1, m1⟩ := agg_vals (gs := gs) (ho (.agg r) (by simp)) h1
        refine ⟨w_ok (hN _ _ m1) _, ?_⟩
        rw [w_den]
        simp only [List.map_cons, List.map_nil, d1, numOf_den h2]
        exact hc xs m1 j hH.1 w (hG' _ hG)
      · cases he
    · cases he
  · cases he
abbrev g12 (n : Int) (a : List Int) : List Int := F12 (pn (n % 12).toNat (v12 a))
abbrev g6 (n : Int) (a : List Int) : List Int := seg 0 36 (g12 (n % 6) (a ++ N36z))
abbrev g2 (n : Int) (a : List Int) : List Int := seg 0 12 (seg 0 36 (g12 (n % 2) (a ++ List.replicate 24 0 ++ N36z)))
def TQ : List (FuncId × Ent2) := (12, entPn 72 g12) :: TR
theorem TQ_ok : TOk2 Tryd.prog GlobD TQ := ⟨ePn Tryd.func12 rfl (by decide) (fun n a h => Fp12.Nm.F12 _) qFp12, TR_ok⟩
abbrev XQ : Cx := ((Cx.of [] (tb LR)).more TQ).sym NoD []
theorem XQ_ok : CxB Tryd.prog XQ GlobD := ((cx_ok (E := []) LR trivial (by kernel_rfl)).more TQ_ok).toCxB.sym (fun u h => h) (fun _ _ _ h => h.elim) []
set_option maxRecDepth 100000 in
theorem qFp6 (a : List Int) (ha : Nm 36 a) (n : Int) (hI : InI n) (w : World) (hG0 : GlobD w) : Calls Tryd.prog 14 #[.agg (vals .u64 a), .int .i64 n] w fun e w' => e = .returned (.agg (vals .u64 (g6 n a))) ∧ RowKit.Below w.heap.size w w' := by
  have hG : ∀ u, RowKit.Below w.heap.size w u → GlobD u := fun u hu => hG0.keep hu
  have he : evalF Tryd.prog XQ 0 9 Tryd.f14 [W 36 a, .num .i64 n] [] [] = some ([W 36 (g6 n a)], [InI n, 0 < (6 : Int) ∧ (6 : Int) ≤ 12, InI (n % 6)]) := by kernel_rfl
  have h := fn_okH (gs := []) (w := w) XQ_ok (fun c _ id c' f h => by rw [hooked_nil] at h; cases h) Tryd.func14 he (hp hI (hp (by decide) (hp (by omega) trivial))) rfl rfl (fun v hv => by
    rcases List.mem_cons.1 hv with rfl | hv
    · exact w_ok ha _
    · rcases List.mem_cons.1 hv with rfl | hv
      · trivial
      · cases hv) hG (fun k t r h => by simp at h)
  simp only [List.map_cons, List.map_nil, w_den] at h
  exact h.mono fun e w' ⟨v, hv, e1, _, e2⟩ => by
    obtain rfl := List.mem_singleton.1 hv
    exact ⟨by rw [e1, w_den], e2⟩
set_option maxRecDepth 100000 in
theorem qFp2 (a : List Int) (ha : Nm 12 a) (n : Int) (hI : InI n) (w : World) (hG0 : GlobD w) : Calls Tryd.prog 16 #[.agg (vals .u64 a), .int .i64 n] w fun e w' => e = .returned (.agg (vals .u64 (g2 n a))) ∧ RowKit.Below w.heap.size w w' := by
  have hG : ∀ u, RowKit.Below w.heap.size w u → GlobD u := fun u hu => hG0.keep hu
  have he : evalF Tryd.prog XQ 0 9 Tryd.f16 [W 12 a, .num .i64 n] [] [] = some ([W 12 (g2 n a)], [InI n, 0 < (2 : Int) ∧ (2 : Int) ≤ 12, InI (n % 2)]) := by kernel_rfl
  have h := fn_okH (gs := []) (w := w) XQ_ok (fun c _ id c' f h => by rw [hooked_nil] at h; cases h) Tryd.func16 he (hp hI (hp (by decide) (hp (by omega) trivial))) rfl rfl (fun v hv => by
    rcases List.mem_cons.1 hv with rfl | hv
    · exact w_ok ha _
    · rcases List.mem_cons.1 hv with rfl | hv
      · trivial
      · cases hv) hG (fun k t r h => by simp at h)
  simp only [List.map_cons, List.map_nil, w_den] at h
  exact h.mono fun e w' ⟨v, hv, e1, _, e2⟩ => by
    obtain rfl := List.mem_singleton.1 hv
    exact ⟨by rw [e1, w_den], e2⟩
end Go.Proofs.YtpnpiiocpjbffaaDoor.S11R
