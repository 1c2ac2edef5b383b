/-
  Own text. Statements of layer 10 by the reckoner.
-/
import Derived.Test.YtiepafeohgpalaaDoorS10Q
namespace Go.Proofs.YtiepafeohgpalaaDoor.S10L
set_option linter.unusedVariables false
set_option linter.unusedSimpArgs false
open Go Go.RowKit Go.Proofs.YtiepafeohgpalaaDoor.Reg Go.Proofs.YtiepafeohgpalaaDoor.Base Go.Proofs.YtiepafeohgpalaaDoor.Limb Go.Proofs.YtiepafeohgpalaaDoor.Sx Go.Proofs.YtiepafeohgpalaaDoor.Fp Go.Proofs.YtiepafeohgpalaaDoor.Fp2 Go.Proofs.YtiepafeohgpalaaDoor.Fp6 Go.Proofs.YtiepafeohgpalaaDoor.Fp12

/-- Powers: of an own slice of words, of none, of a slice that came in. -/
def entPow : Ent2 := fun D bl args => match args with
  | [.agg r, .slc k 0 m _] => match mg r, bl k with
    | some (n, xs), some (_, rr) => match mg rr with
      | some (j, l) => if n = 72 ∧ j = m then some (W 72 (F12 (kp (v12 xs) (num l).toNat)), [m ≤ 10000]) else none
      | none => none
    | _, _ => none
  | [.agg r, .val (.slice none 0 0)] => match mg r with
    | some (n, xs) => if n = 72 then some (W 72 (F12 (kp (v12 xs) 0)), []) else none
    | none => none
  | [.agg r, .ext A m _ l] => match mg r with
    | some (n, xs) => if n = 72 then some (W 72 (F12 (kp (v12 xs) (num l).toNat)), [D A m l, m ≤ 10000]) else none
    | none => none
  | _ => none
theorem ePow {F : FuncId} {fn : Func} (hf : Tryd.prog.funcs[F]? = some fn) (hb : fn.body.isNone = false) (hn : (fn.name == "runtime.NumGoroutine") = false)
    (hc : ∀ (a : List Int), Nm 72 a → ∀ (A : Option Addr) (n c : Nat) (l : List Int) (B : Nat) (w : World), GlobD w → Rd w B A n .u64 l → Words l → B ≤ w.heap.size → n ≤ 10000 → Calls Tryd.prog F #[.agg (vals .u64 a), .slice A n c] w fun e w' => e = .returned (.agg (vals .u64 (F12 (kp (v12 a) (num l).toNat)))) ∧ RowKit.Below w.heap.size w w') : EOk2 Tryd.prog GlobD F entPow := by
  refine ⟨enter_of hf hb hn, fun G' D bl args v ps gs hG' hD he hH ho w hG hB => ?_⟩
  unfold entPow at he
  split at he
  · rename_i r k m cp
    split at he
    · rename_i n xs t rr h1 h2
      split at he
      · rename_i j l h3
        split at he
        · rename_i hcc
          obtain ⟨rfl, rfl⟩ := hcc
          injection he with he
          injection he with e1 e2
          subst e1 e2
          obtain ⟨d1, m1⟩ := agg_vals (gs := gs) (ho (.agg r) (by simp)) h1
          obtain ⟨hh, hr⟩ := hB k t rr h2
          obtain ⟨m3, e3⟩ := mg_ok hr h3
          rw [e3] at hh
          refine ⟨w_ok (Fp12.Nm.F12 _) _, ?_⟩
          rw [w_den]
          simp only [List.map_cons, List.map_nil, d1]
          exact hc xs m1 (some ⟨gs.getD k 0, 0, none⟩) j cp l w.heap.size w (hG' _ hG) (Rd.of_has hh hh.lt (by rw [List.drop_zero, List.take_of_length_le (by rw [m3.len]; exact Nat.le_refl _)]) (by rw [m3.len]; omega)) m3.words (Nat.le_refl _) hH.1
        · cases he
      · cases he
    · cases he
  · rename_i r
    split at he
    · rename_i n xs h1
      split at he
      · rename_i hcc
        subst hcc
        injection he with he
        injection he with e1 e2
        subst e1 e2
        obtain ⟨d1, m1⟩ := agg_vals (gs := gs) (ho (.agg r) (by simp)) h1
        refine ⟨w_ok (Fp12.Nm.F12 _) _, ?_⟩
        rw [w_den]
        simp only [List.map_cons, List.map_nil, d1]
        have := hc xs m1 none 0 0 [] 0 w (hG' _ hG) ⟨rfl, fun h => absurd h (Nat.lt_irrefl _)⟩ words_nil (Nat.zero_le _) (by omega)
        rwa [show (num ([] : List Int)).toNat = 0 by decide] at this
      · cases he
    · cases he
  · rename_i r A m cp l
    split at he
    · rename_i n xs h1
      split at he
      · rename_i hcc
        subst hcc
        injection he with he
        injection he with e1 e2
        subst e1 e2
        obtain ⟨d1, m1⟩ := agg_vals (gs := gs) (ho (.agg r) (by simp)) h1
        obtain ⟨hw, B, hB'⟩ := hD _ _ _ hH.1
        refine ⟨w_ok (Fp12.Nm.F12 _) _, ?_⟩
        rw [w_den]
        simp only [List.map_cons, List.map_nil, d1]
        exact hc xs m1 A m cp l B w (hG' _ hG) (hB' w hG).2 hw (hB' w hG).1 hH.2.1
      · cases he
    · cases he
  · cases he
def L0 : List (Fact Tryd.prog GlobD) := S10.lReduce.fact (.con Tryd.func12 rfl (by decide) S10.lReduce) ::
  S10.lAdd.fact (.con Tryd.func14 rfl (by decide) S10.lAdd) ::
  S10.lSub.fact (.con Tryd.func16 rfl (by decide) S10.lSub) ::
  S10.lNeg.fact (.con Tryd.func18 rfl (by decide) S10.lNeg) ::
  S10.lConj.fact (.con Tryd.func20 rfl (by decide) S10.lConj) ::
  S10.lMul.fact (.con Tryd.func22 rfl (by decide) S10.lMul) ::
  S10.lInv.fact (.con Tryd.func24 rfl (by decide) S10.lInv) ::
  S10.qReduce.fact (.con Tryd.func13 rfl (by decide) S10.qReduce) ::
  S10.qAdd.fact (.con Tryd.func15 rfl (by decide) S10.qAdd) ::
  S10.qSub.fact (.con Tryd.func17 rfl (by decide) S10.qSub) ::
  S10.qNeg.fact (.con Tryd.func19 rfl (by decide) S10.qNeg) ::
  S10.qConj.fact (.con Tryd.func21 rfl (by decide) S10.qConj) ::
  S10.qMul.fact (.con Tryd.func23 rfl (by decide) S10.qMul) ::
  S10.qInv.fact (.con Tryd.func25 rfl (by decide) S10.qInv) ::
  S10.qOne.fact (.con Tryd.func28 rfl (by decide) S10.qOne) ::
  S10.L0
def TP : List (FuncId × Ent2) := [(26, entPow), (27, entPow)]
theorem TP_ok : TOk2 Tryd.prog GlobD TP := ⟨ePow Tryd.func26 rfl (by decide) (fun a ha A n c l B w hG hr hw hB hn => S10P.lPow a ha A n c l B w hG hr hw hB hn), ePow Tryd.func27 rfl (by decide) (fun a ha A n c l B w hG hr hw hB hn => S10Q.qPow a ha A n c l B w hG hr hw hB hn), trivial⟩
abbrev X0 : Cx := (Cx.of [(30, 72)] (tb L0)).more TP
theorem X0_ok : CxOk Tryd.prog X0 GlobD := (cx_ok (E := [(30, 72)]) L0 ⟨⟨eqokk, gdk⟩, trivial⟩ (by kernel_rfl)).more TP_ok
set_option maxRecDepth 100000 in
theorem awake : Con Tryd.prog GlobD 11 [] (f0 (.val (.bool true))) := fun l hl => match l, hl with
  | [], hl => .ofk X0_ok GlobD.keep Tryd.func11 9 [true, true, true, true] (obs := [qb true (F12 (km (v12 W72d) (v12 W72d)) = V72d), 1 ≤ 10000, qb true (F12 (kp (v12 W72d) (num [6]).toNat) = X72d), qb true (F12 (ki (v12 N72d)) = N72d), qb true (F12 (km (v12 (F12 (ki (v12 W72d)))) (v12 W72d)) = O72)]) hl 0 (fun _ => trivial) rfl rfl (hp (aw_e1) (hp (by decide) (hp (aw_p) (hp (aw_e4) (hp (aw_e5) trivial))))) (by kernel_rfl)
def L1 : List (Fact Tryd.prog GlobD) := awake.fact (.con Tryd.func11 rfl (by decide) awake) ::
  L0
abbrev X1 : Cx := (Cx.of [(30, 72)] (tb L1)).more TP
theorem X1_ok : CxOk Tryd.prog X1 GlobD := (cx_ok (E := [(30, 72)]) L1 ⟨⟨eqokk, gdk⟩, trivial⟩ (by kernel_rfl)).more TP_ok
set_option maxRecDepth 100000 in
theorem sums : Con Tryd.prog GlobD 3 [72, 72] (f2 fun a b => .val (.bool true)) := fun l hl => match l, hl with
  | [a, b], hl => .ofk X1_ok GlobD.keep Tryd.func3 9 [true, true, true, true, true] (obs := [qb true (F12 (v12 a) = F12 (v12 a)), qb true (F12 (ka (v12 a) (v12 b)) = F12 (ka (v12 a) (v12 b))), qb true (F12 (ks (v12 a) (v12 b)) = F12 (ks (v12 a) (v12 b))), qb true (F12 (kn (v12 a)) = F12 (kn (v12 a))), qb true (F12 (kc (v12 a)) = F12 (kc (v12 a)))]) hl 0 (fun _ => trivial) rfl rfl (hp (rfl) (hp (rfl) (hp (rfl) (hp (rfl) (hp (rfl) trivial))))) (by kernel_rfl)
set_option maxRecDepth 100000 in
theorem products : Con Tryd.prog GlobD 4 [72, 72] (f2 fun a b => .val (.bool true)) := fun l hl => match l, hl with
  | [a, b], hl => .ofk X1_ok GlobD.keep Tryd.func4 9 [true, true] (obs := [qb true (F12 (km (v12 a) (v12 b)) = F12 (km (v12 a) (v12 b))), qb true (F12 (ki (v12 a)) = F12 (ki (v12 a)))]) hl 0 (fun _ => trivial) rfl rfl (hp (rfl) (hp (rfl) trivial)) (by kernel_rfl)
set_option maxRecDepth 100000 in
theorem field : Con Tryd.prog GlobD 6 [72, 72, 72] (f3 fun a b c => .val (.bool true)) := fun l hl => match l, hl with
  | [a, b, c], hl => .ofk X1_ok GlobD.keep Tryd.func6 9 [true, true, true, true, true, true, true] (obs := [qb true (F12 (ka (v12 a) (v12 b)) = F12 (ka (v12 b) (v12 a))), qb true (F12 (km (v12 a) (v12 b)) = F12 (km (v12 b) (v12 a))), qb true (F12 (ka (v12 (F12 (ka (v12 a) (v12 b)))) (v12 c)) = F12 (ka (v12 a) (v12 (F12 (ka (v12 b) (v12 c)))))), qb true (F12 (km (v12 (F12 (km (v12 a) (v12 b)))) (v12 c)) = F12 (km (v12 a) (v12 (F12 (km (v12 b) (v12 c)))))), qb true (F12 (km (v12 a) (v12 (F12 (ka (v12 b) (v12 c))))) = F12 (ka (v12 (F12 (km (v12 a) (v12 b)))) (v12 (F12 (km (v12 a) (v12 c)))))), qb true (F12 (km (v12 a) (v12 O72)) = F12 (v12 a)), qb true (F12 (ks (v12 (F12 (ka (v12 a) (v12 b)))) (v12 b)) = F12 (v12 a))]) hl 0 (fun _ => trivial) rfl rfl (hp (fld1 _ _) (hp (fld2 _ _) (hp (fld3 _ _ _) (hp (fld4 _ _ _) (hp (fld5 _ _ _) (hp (fld6 _) (hp (fld7 _ _) trivial))))))) (by kernel_rfl)
set_option maxRecDepth 100000 in
theorem conj : Con Tryd.prog GlobD 8 [72, 72] (f2 fun a b => .val (.bool true)) := fun l hl => match l, hl with
  | [a, b], hl => .ofk X1_ok GlobD.keep Tryd.func8 9 [true, true, true, true] (obs := [qb true (F12 (kc (v12 (F12 (ka (v12 a) (v12 b))))) = F12 (ka (v12 (F12 (kc (v12 a)))) (v12 (F12 (kc (v12 b)))))), qb true (F12 (kc (v12 (F12 (km (v12 a) (v12 b))))) = F12 (km (v12 (F12 (kc (v12 a)))) (v12 (F12 (kc (v12 b)))))), qb true (F12 (kc (v12 (F12 (kc (v12 a))))) = F12 (v12 a)), qb true (F12 (km (v12 a) (v12 (F12 (kc (v12 a))))) = F6 (Fp6.hs (v6 (F6 (Fp6.hm (v6 (seg 0 36 a)) (v6 (seg 0 36 a))))) (v6 (F6 (Fp6.hv (v6 (F6 (Fp6.hm (v6 (seg 36 36 a)) (v6 (seg 36 36 a))))))))) ++ N36z)]) hl 0 (fun _ => trivial) rfl rfl (hp (ck1 _ _) (hp (ck2 _ _) (hp (ck3 _) (hp (ck4 _) trivial)))) (by kernel_rfl)
set_option maxRecDepth 100000 in
theorem within : Con Tryd.prog GlobD 10 [36, 36] (f2 fun a b => .val (.bool true)) := fun l hl => match l, hl with
  | [a, b], hl => .ofk X1_ok GlobD.keep Tryd.func10 9 [true, true, true, true] (obs := [qb true (F12 (ka (v12 (a ++ N36z)) (v12 (b ++ N36z))) = F6 (Fp6.ha (v6 a) (v6 b)) ++ N36z), qb true (F12 (km (v12 (a ++ N36z)) (v12 (b ++ N36z))) = F6 (Fp6.hm (v6 a) (v6 b)) ++ N36z), qb true (F12 (ki (v12 (a ++ N36z))) = F6 (Fp6.hi (v6 a)) ++ N36z), qb true (F12 (kc (v12 (a ++ N36z))) = F6 (v6 a) ++ N36z)]) hl 0 (fun _ => trivial) rfl rfl (hp (wj1 hl.1 hl.2.1) (hp (wj2 hl.1 hl.2.1) (hp (wj3 hl.1) (hp (wj4 hl.1) trivial)))) (by kernel_rfl)
set_option maxRecDepth 100000 in
theorem inverse_0 {a b : List Int} (hl : Nms [72, 72] [a, b]) (hz : Z12 (v12 a)) : At Tryd.prog GlobD 7 [a, b] (.val (.bool true)) := .ofk X1_ok GlobD.keep Tryd.func7 9 [true, true, true, true] (obs := [qb true (F12 (v12 a) = N72d), qb true (F12 (ki (v12 a)) = N72d), qb true (F12 (km (v12 a) (v12 b)) = N72d), qb true (F12 (v12 a) = N72d)]) hl 0 (fun _ => trivial) rfl rfl (hp ((Fz _).2 hz) (hp ((Fz _).2 (ki_zero hz)) (hp ((Fz _).2 (km_zl hz)) (hp ((Fz _).2 hz) trivial)))) (by kernel_rfl)
set_option maxRecDepth 100000 in
theorem inverse_1 {a b : List Int} (hl : Nms [72, 72] [a, b]) (hz : ¬ Z12 (v12 a)) (hb : Z12 (v12 b)) : At Tryd.prog GlobD 7 [a, b] (.val (.bool true)) := .ofk X1_ok GlobD.keep Tryd.func7 9 [false, false, true, true, true, false, true] (obs := [qb false (F12 (v12 a) = N72d), qb false (F12 (v12 a) = N72d), qb true (F12 (km (v12 a) (v12 (F12 (ki (v12 a))))) = O72), qb true (F12 (ki (v12 (F12 (ki (v12 a))))) = F12 (v12 a)), qb true (F12 (km (v12 a) (v12 b)) = N72d), qb false (F12 (v12 a) = N72d), qb true (F12 (v12 b) = N72d)]) hl 0 (fun _ => trivial) rfl rfl (hp (fun h => hz ((Fz _).1 h)) (hp (fun h => hz ((Fz _).1 h)) (hp (by rw [S10.kr Fp12.km_congr, ← one_l]; exact F12_eq (km_ki hz)) (hp (F12_eq ((ki_congr (v12_F12 _)).trans (ki_ki hz))) (hp (by rw [km_comm]; exact (Fz _).2 (km_zl hb)) (hp (fun h => hz ((Fz _).1 h)) (hp ((Fz _).2 hb) trivial))))))) (by kernel_rfl)
set_option maxRecDepth 100000 in
theorem inverse_2 {a b : List Int} (hl : Nms [72, 72] [a, b]) (hz : ¬ Z12 (v12 a)) (hb : ¬ Z12 (v12 b)) : At Tryd.prog GlobD 7 [a, b] (.val (.bool true)) := .ofk X1_ok GlobD.keep Tryd.func7 9 [false, false, true, true, false, false, false] (obs := [qb false (F12 (v12 a) = N72d), qb false (F12 (v12 a) = N72d), qb true (F12 (km (v12 a) (v12 (F12 (ki (v12 a))))) = O72), qb true (F12 (ki (v12 (F12 (ki (v12 a))))) = F12 (v12 a)), qb false (F12 (km (v12 a) (v12 b)) = N72d), qb false (F12 (v12 a) = N72d), qb false (F12 (v12 b) = N72d)]) hl 0 (fun _ => trivial) rfl rfl (hp (fun h => hz ((Fz _).1 h)) (hp (fun h => hz ((Fz _).1 h)) (hp (by rw [S10.kr Fp12.km_congr, ← one_l]; exact F12_eq (km_ki hz)) (hp (F12_eq ((ki_congr (v12_F12 _)).trans (ki_ki hz))) (hp (fun h => hb (km_zero ((Fz _).1 h) hz)) (hp (fun h => hz ((Fz _).1 h)) (hp (fun h => hb ((Fz _).1 h)) trivial))))))) (by kernel_rfl)
theorem inverse : Con Tryd.prog GlobD 7 [72, 72] (f2 fun a b => .val (.bool true)) := fun l hl => match l, hl with
  | [a, b], hl => by
    by_cases hz : Z12 (v12 a)
    · exact inverse_0 hl hz
    · by_cases hb : Z12 (v12 b)
      · exact inverse_1 hl hz hb
      · exact inverse_2 hl hz hb
set_option maxRecDepth 100000 in
theorem powers (a : List Int) (ha : Nm 72 a) (A : Option Addr) (n c : Nat) (l : List Int) (w : World) (hG0 : GlobD w) (hr : Rd w w.heap.size A n .u64 l ∧ Words l) : Calls Tryd.prog 5 #[.agg (vals .u64 a), .slice A n c] w fun e w' => e = .returned (.bool true) ∧ RowKit.Below w.heap.size w w' := by
  obtain ⟨hr, hw⟩ := hr
  have hC := X1_ok
  have hG : ∀ u, RowKit.Below w.heap.size w u → S10P.GP A n l w.heap.size u := fun u hu => S10P.GP.keep ⟨⟨hG0, Nat.le_refl _⟩, hr⟩ hu
  by_cases h4 : 4 < n
  · have he : evalF Tryd.prog (X1.sym (S10P.Dp A n l) []) 0 9 Tryd.f5 [W 72 a, .ext A n c l] [] [true] = some ([.val (.bool true)], [qb true ((4 : Int) < (n : Int))]) := by kernel_rfl
    have h := fn_okH (gs := []) (w := w) (hC.toCxB.sym (fun u h => h.1.1) (fun A' n' l' h => by
      obtain ⟨rfl, rfl, rfl⟩ := h
      exact ⟨hw, w.heap.size, fun u hu => ⟨hu.1.2, hu.2⟩⟩) []) (fun c _ id c' f h => by rw [hooked_nil] at h; cases h) Tryd.func5 he (hp (by show (4 : Int) < n; omega) trivial) rfl rfl (fun v hv => by
    rcases List.mem_cons.1 hv with rfl | hv
    · exact w_ok ha _
    · rcases List.mem_cons.1 hv with rfl | hv
      · trivial
      · cases hv) hG (fun k t r h => by simp at h)
    simp only [List.map_cons, List.map_nil, w_den] at h
    exact h.mono fun e w' ⟨v, hv, e1, _, e2⟩ => by
      obtain rfl := List.mem_singleton.1 hv
      exact ⟨e1, e2⟩
  · have he : evalF Tryd.prog (X1.sym (S10P.Dp A n l) []) 0 9 Tryd.f5 [W 72 a, .ext A n c l] [] [false, true] = some ([.val (.bool true)], [qb false ((4 : Int) < (n : Int)), S10P.Dp A n l A n l, n ≤ 10000, S10P.Dp A n l A n l, n ≤ 10000, qb true (F12 (kp (v12 a) (num l).toNat) = F12 (kp (v12 a) (num l).toNat))]) := by kernel_rfl
    have h := fn_okH (gs := []) (w := w) (hC.toCxB.sym (fun u h => h.1.1) (fun A' n' l' h => by
      obtain ⟨rfl, rfl, rfl⟩ := h
      exact ⟨hw, w.heap.size, fun u hu => ⟨hu.1.2, hu.2⟩⟩) []) (fun c _ id c' f h => by rw [hooked_nil] at h; cases h) Tryd.func5 he (hp (by show ¬ ((4 : Int) < n); omega) (hp (⟨rfl, rfl, rfl⟩) (hp (by omega) (hp (⟨rfl, rfl, rfl⟩) (hp (by omega) (hp (rfl) trivial)))))) rfl rfl (fun v hv => by
    rcases List.mem_cons.1 hv with rfl | hv
    · exact w_ok ha _
    · rcases List.mem_cons.1 hv with rfl | hv
      · trivial
      · cases hv) hG (fun k t r h => by simp at h)
    simp only [List.map_cons, List.map_nil, w_den] at h
    exact h.mono fun e w' ⟨v, hv, e1, _, e2⟩ => by
      obtain rfl := List.mem_singleton.1 hv
      exact ⟨e1, e2⟩
end Go.Proofs.YtiepafeohgpalaaDoor.S10L
