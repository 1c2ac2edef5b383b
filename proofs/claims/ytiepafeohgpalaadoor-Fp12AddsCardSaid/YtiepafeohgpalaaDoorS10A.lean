/-
  Own text. Fp12Adds: a walk up to the sum of two words, the rest by the reckoner.
-/
import Derived.Test.YtiepafeohgpalaaDoorS10L
import Derived.Test.YtiepafeohgpalaaDoorLimbMulX
import Derived.Test.YtiepafeohgpalaaDoorLimbOwnA
import Derived.Test.YtiepafeohgpalaaDoorLimbOwnB
import Derived.Test.YtiepafeohgpalaaDoorMReg
namespace Go.Proofs.YtiepafeohgpalaaDoor.S10A
set_option linter.unusedVariables false
set_option linter.unusedSimpArgs false
open Go Go.RowKit Go.Proofs.YtiepafeohgpalaaDoor.Reg Go.Proofs.YtiepafeohgpalaaDoor.Base Go.Proofs.YtiepafeohgpalaaDoor.Limb Go.Proofs.YtiepafeohgpalaaDoor.Sx Go.Proofs.YtiepafeohgpalaaDoor.Fp Go.Proofs.YtiepafeohgpalaaDoor.Fp2 Go.Proofs.YtiepafeohgpalaaDoor.Fp6 Go.Proofs.YtiepafeohgpalaaDoor.Fp12 Go.Proofs.YtiepafeohgpalaaDoor.S10L

theorem one_word {x : Int} (h0 : 0 ≤ x) (h1 : x ≤ 18446744073709551615) : Words [x] ∧ num [x] = x := ⟨words_one h0 h1, by simp [num, low, nth, wp]⟩
theorem sum_two {e f : Int} (he0 : 0 ≤ e) (he1 : e ≤ 18446744073709551615) (hf0 : 0 ≤ f) (hf1 : f ≤ 18446744073709551615) : ∃ s c : Int, addL [e] [f] = [s] ∧ addC [e] [f] = c ∧ Words [s, c] ∧ num [s, c] = e + f := by
  have ne := (one_word he0 he1).2
  have nf := (one_word hf0 hf1).2
  refine ⟨(e + f) % 18446744073709551616, (e + f) / 18446744073709551616, ?_, ?_, ?_, ?_⟩
  · rw [addL, ne, nf]
    simp [wd, tab, wp]
  · rw [addC, ne, nf]
    simp [wp]
  · exact words_append (l := [(e + f) % 18446744073709551616]) (words_one (by omega) (by omega)) (words_one (by omega) (by omega))
  · have h := num_append [(e + f) % 18446744073709551616] [(e + f) / 18446744073709551616]
    rw [(one_word (by omega) (by omega)).2, (one_word (by omega) (by omega)).2] at h
    rw [List.singleton_append] at h
    rw [h]
    show (e + f) % 18446744073709551616 + 18446744073709551616 ^ 1 * ((e + f) / 18446744073709551616) = e + f
    omega

/-- limb.Mul of one word each. -/
def entMul : Ent3 := fun b0 bl args => match args with
  | [.slc k 0 1 _, .slc j 0 1 _] => match bl k, bl j with
    | some (_, r), some (_, s) => match mg r, mg s with
      | some (1, x), some (1, y) => some (.slc b0 0 2 2, (22, [.nums 2 (wd 2 (num x * num y))]), [])
      | _, _ => none
    | _, _ => none
  | _ => none
theorem eMul : EOk3 Tryd.prog GlobD 33 entMul := by
  refine ⟨enter_of Tryd.func33 rfl (by decide), fun bl args v t r ps gs he hH ho w hG hB => ?_⟩
  unfold entMul at he
  split at he
  · rename_i k c j d
    split at he
    · rename_i tk r' tj s' h1 h2
      split at he
      · rename_i x y h3 h4
        injection he with he
        injection he with e1 e2
        injection e2 with e2 e3
        injection e2 with e2 e4
        subst e1 e2 e4
        obtain ⟨hx, hr⟩ := hB k tk r' h1
        obtain ⟨hy, hs⟩ := hB j tj s' h2
        obtain ⟨n1, d1⟩ := mg_ok hr h3
        obtain ⟨n2, d2⟩ := mg_ok hs h4
        rw [d1] at hx
        rw [d2] at hy
        refine ⟨⟨⟨wd_len _ _, wd_words _ _⟩, trivial⟩, Nat.lt_succ_self _, ?_⟩
        have hrx : Rd w w.heap.size (some ⟨gs.getD k 0, 0, none⟩) 1 .u64 x := Rd.of_has hx hx.lt (by rw [List.drop_zero, List.take_of_length_le (by rw [n1.len]; exact Nat.le_refl _)]) (by rw [n1.len]; omega)
        have hry : Rd w w.heap.size (some ⟨gs.getD j 0, 0, none⟩) 1 .u64 y := Rd.of_has hy hy.lt (by rw [List.drop_zero, List.take_of_length_le (by rw [n2.len]; exact Nat.le_refl _)]) (by rw [n2.len]; omega)
        have h := mul_x _ 1 c x _ 1 d y w.heap.size w hrx n1.words hry n2.words (Nat.le_refl _) (by omega) (by omega)
        refine h.mono fun e w' ⟨e1, e2, e3⟩ => ⟨w.heap.size, Nat.le_refl _, ?_, ?_, e3⟩
        · have : (den [.nums 2 (wd 2 (num x * num y))]).toArray = vals .u64 (wd 2 (num x * num y)) := by simp [den, Sg.den, vals]
          rw [this]
          exact e2
        · rw [e1, AV.den, getD_new]
      · cases he
    · cases he
  · cases he
def TM : List (FuncId × Ent3) := [(33, entMul)]
abbrev X2 : Cx := X1.made TM
theorem X2_ok : CxOk Tryd.prog X2 GlobD := X1_ok.made ⟨eMul, trivial⟩
/-- What follows the first four parts of a body. -/
def rsN : Nat → Code → Code
  | 0, c => c
  | n + 1, .seq _ b => rsN n b
  | _, c => c
def bodyOf (fn : Func) : Code := match fn.body with
  | some c => c
  | none => .skip
theorem calls_opq {P : Program} {g : FuncId} {fn : Func} {c0 c1 c2 c3 R : Code} {args : Array Value} {w : World} {Q : Ending → World → Prop} (K : Act → World → Prop) (hf : P.funcs[g]? = some fn) (hb : fn.body = some (.seq c0 (.seq c1 (.seq c2 (.seq c3 R)))))
    (hR : ∀ a x, K a x → R.wp P (bodyPost P fn Q) a x) (h : ∀ R', (∀ a x, K a x → R'.wp P (bodyPost P fn Q) a x) → (Code.seq c0 (.seq c1 (.seq c2 (.seq c3 R')))).wp P (bodyPost P fn Q) { tmps := args ++ Array.replicate (fn.ntmps - args.size) undef, defers := [] } w) : Calls P g args w Q :=
  calls_of_wp hf hb (h R hR)
theorem mkSl_len : ∀ (l : List (Nat × AV)) (s : List AV), (l.foldl (fun s p => s.set p.1 p.2) s).length = s.length
  | [], s => rfl
  | p :: l, s => by rw [List.foldl_cons, mkSl_len l, List.length_set]
theorem mkSl_fold {gs : List Nat} {a : Act} : ∀ (l : List (Nat × AV)) (s : List AV), (∀ p ∈ l, a.tmps[p.1]? = some (p.2.den gs)) → (∀ (i : Nat) (v : AV), s[i]? = some v → v ≠ .unk → a.tmps[i]? = some (v.den gs)) → ∀ (i : Nat) (v : AV), (l.foldl (fun s p => s.set p.1 p.2) s)[i]? = some v → v ≠ .unk → a.tmps[i]? = some (v.den gs)
  | [], s, _, h => h
  | p :: l, s, hl, h => by
    rw [List.foldl_cons]
    refine mkSl_fold l _ (fun q hq => hl q (List.mem_cons_of_mem _ hq)) (fun i v hi hu => ?_)
    rw [List.getElem?_set] at hi
    split at hi
    · rename_i he
      subst he
      split at hi
      · obtain rfl := Option.some.inj hi
        exact hl p (by simp)
      · cases hi
    · exact h i v hi hu
theorem mkSl_ok {gs : List Nat} {a : Act} {n : Nat} {l : List (Nat × AV)} (hn : a.tmps.size = n) (hl : ∀ p ∈ l, a.tmps[p.1]? = some (p.2.den gs)) : Sl gs (mkSl n l) a :=
  ⟨by rw [mkSl, mkSl_len, List.length_replicate, hn], mkSl_fold l _ hl (fun i v hi hu => by
    obtain ⟨_, rfl⟩ := List.mem_replicate.1 (List.mem_of_getElem? hi)
    exact absurd rfl hu)⟩
theorem mkSl_sok {n m : Nat} {l : List (Nat × AV)} (hl : ∀ p ∈ l, p.2.Ok m) : SOk m (mkSl n l) := by
  have : ∀ (l : List (Nat × AV)) (s : List AV), (∀ p ∈ l, p.2.Ok m) → SOk m s → SOk m (l.foldl (fun s p => s.set p.1 p.2) s) := by
    intro l
    induction l with
    | nil => intro s _ h; exact h
    | cons p l ih =>
      intro s hl h
      refine ih _ (fun q hq => hl q (List.mem_cons_of_mem _ hq)) (fun v hv => ?_)
      rcases List.mem_or_eq_of_mem_set hv with hv | rfl
      · exact h v hv
      · exact hl p (by simp)
  exact this l _ hl (fun v hv => by obtain ⟨_, rfl⟩ := List.mem_replicate.1 hv; trivial)
/-- The rest of a body, reckoned from a world on. -/
def evalR (P : Program) (C : Cx) (m N : Nat) (R : Code) (rs : List ResultVar) (sl : List AV) (bs : List Bk) (q : List Bool) : Option (List AV × List Ob) := match evalC P C m N R sl bs q with
  | some (l, obs) => match resL P rs l with
    | some vs => some (vs, obs)
    | none => none
  | none => none
theorem tail_ok {P : Program} {C : Cx} {G : World → Prop} {m N : Nat} {fn : Func} {R : Code} {sl : List AV} {bs : List Bk} {q : List Bool} {gs : List Nat} {a : Act} {x : World} {obs : List Ob} {vs : List AV} {Q : Ending → World → Prop} (hC : CxB P C G) (hH0 : C.H = []) (hG : ∀ u, RowKit.Below x.heap.size x u → G u)
    (he : evalR P C m N R fn.results.toList sl bs q = some (vs, obs)) (hH : Holds obs) (h : Sl gs sl a) (ho : SOk gs.length sl) (hm : m ≤ gs.length) (H : Wd x.heap.size x m gs bs x) (hd : a.defers = [])
    (hQ : ∀ v ∈ vs, ∀ x', RowKit.Below x.heap.size x x' → ∀ gs' : List Nat, Q (.returned (v.den gs')) x') : R.wp P (bodyPost P fn Q) a x := by
  unfold evalR at he
  split at he
  · rename_i l ob h1
    split at he
    · rename_i vs' hr
      injection he with he
      injection he with e1 e2
      subst e1 e2
      refine (code_ok (S := x.heap.size) (w := x) hC hG R (fun id c' f hc => by rw [hH0, hooked_nil] at hc; cases hc)).go (fun c a d v w h => ?_) h1 h ho hm H hH (fun sl2 bs2 q2 e hx gs' a' x' p1 p2 p3 p4 p5 => ?_)
      · simp only [bodyPost] at h ⊢
        refine ⟨?_, h.2⟩
        have := h.1
        cases d <;> exact this
      · obtain ⟨hx1, v', hv', hra⟩ := resL_ok hr sl2 bs2 q2 e hx
        obtain ⟨r1, r2, r3⟩ := resA_ok p1 p2 p5 hra
        cases e with
        | nrm => exact ⟨p4.trans hd, _, r3, hQ v' hv' x' p5.bel gs'⟩
        | ret => exact ⟨p4.trans hd, _, r3, hQ v' hv' x' p5.bel gs'⟩
        | ext i => exact (hx1 i rfl).elim
    · cases he
  · cases he
def sl0 (e f : Int) (A : Option Addr) (c : Nat) (l : List Int) : List AV := mkSl 66 [(1, .num .u64 e), (2, .num .u64 f), (3, .ptr 0 0), (7, .val (.bool true)), (10, .ext A 2 c l)]
def bs0 (a : List Int) : List Bk := [(30, [.nums 72 a])]
abbrev XA (A : Option Addr) (l : List Int) : Cx := X2.sym (S10P.Dp A 2 l) []
set_option maxRecDepth 100000 in
theorem rest_ok {a : List Int} (ha : Nm 72 a) {e f : Int} (he0 : 0 ≤ e) (he1 : e ≤ 18446744073709551615) (hf0 : 0 ≤ f) (hf1 : f ≤ 18446744073709551615) {A : Option Addr} {c : Nat} {l : List Int} (hl : num l = e + f) (hw : Words l) {S : Nat} {act : Act} {x : World} (hG0 : GlobD x)
    (h1 : act.tmps.size = 66) (h2 : ∀ p ∈ ([(1, .num .u64 e), (2, .num .u64 f), (3, .ptr 0 0), (7, .val (.bool true)), (10, .ext A 2 c l)] : List (Nat × AV)), act.tmps[p.1]? = some (p.2.den [S])) (hd : act.defers = []) (hS : Has x S 30 (vals .u64 a)) (hr : Rd x x.heap.size A 2 .u64 l) {Q : Ending → World → Prop} (hQ : ∀ x', RowKit.Below x.heap.size x x' → Q (.returned (.bool true)) x') : (rsN 4 (bodyOf Tryd.f9)).wp Tryd.prog (bodyPost Tryd.prog Tryd.f9 Q) act x := by
  have hG : ∀ u, RowKit.Below x.heap.size x u → S10P.GP A 2 l x.heap.size u := fun u hu => S10P.GP.keep ⟨⟨hG0, Nat.le_refl _⟩, hr⟩ hu
  have ne := (one_word he0 he1).2
  have nf := (one_word hf0 hf1).2
  have k1 : F12 (km (v12 (F12 (kp (v12 a) (num [e]).toNat))) (v12 (F12 (kp (v12 a) (num [f]).toNat)))) = F12 (kp (v12 a) (num l).toNat) := by
    rw [kp_digit, hl, ne, nf]
    congr 2
    omega
  have k2 : F12 (kp (v12 (F12 (kp (v12 a) (num [e]).toNat))) (num [f]).toNat) = F12 (kp (v12 a) (num (wd 2 (num [e] * num [f]))).toNat) := by
    have hb : num [e] * num [f] < wp 2 := by
      rw [ne, nf, show wp 2 = 340282366920938463463374607431768211456 from rfl]
      have h3 : e * f ≤ 18446744073709551615 * f := Int.mul_le_mul_of_nonneg_right he1 hf0
      omega
    rw [num_wd_of (Int.mul_nonneg (by rw [ne]; exact he0) (by rw [nf]; exact hf0)) hb, ne, nf, Int.toNat_mul he0 hf0, kp_mul]
    exact F12_eq (kp_congr (v12_F12 _) _)
  have k3 : F12 (kp (v12 a) 0) = O72 := F12_one
  have he : evalR Tryd.prog (XA A l) 1 9 (rsN 4 (bodyOf Tryd.f9)) Tryd.f9.results.toList (sl0 e f A c l) (bs0 a) [true, true, true] = some ([.val (.bool true), .val (.bool true), .val (.bool true), .val (.bool true), .val (.bool true), .val (.bool true)], [1 ≤ 10000, 1 ≤ 10000, S10P.Dp A 2 l A 2 l, 2 ≤ 10000, qb true (F12 (km (v12 (F12 (kp (v12 a) (num [e]).toNat))) (v12 (F12 (kp (v12 a) (num [f]).toNat)))) = F12 (kp (v12 a) (num l).toNat)), 1 ≤ 10000, 2 ≤ 10000, qb true (F12 (kp (v12 (F12 (kp (v12 a) (num [e]).toNat))) (num [f]).toNat) = F12 (kp (v12 a) (num (wd 2 (num [e] * num [f]))).toNat)), qb true (F12 (kp (v12 a) 0) = O72), 2 ≤ 10000, qb true (F12 (kp (v12 (F12 (kp (v12 a) (num [e]).toNat))) (num [f]).toNat) = F12 (kp (v12 a) (num (wd 2 (num [e] * num [f]))).toNat)), qb true (F12 (kp (v12 a) 0) = O72), 1 ≤ 10000, 2 ≤ 10000, qb true (F12 (kp (v12 (F12 (kp (v12 a) (num [e]).toNat))) (num [f]).toNat) = F12 (kp (v12 a) (num (wd 2 (num [e] * num [f]))).toNat)), qb true (F12 (kp (v12 a) 0) = O72), 1 ≤ 10000, 2 ≤ 10000, qb true (F12 (kp (v12 (F12 (kp (v12 a) (num [e]).toNat))) (num [f]).toNat) = F12 (kp (v12 a) (num (wd 2 (num [e] * num [f]))).toNat)), qb true (F12 (kp (v12 a) 0) = O72), 1 ≤ 10000, 2 ≤ 10000, qb true (F12 (kp (v12 (F12 (kp (v12 a) (num [e]).toNat))) (num [f]).toNat) = F12 (kp (v12 a) (num (wd 2 (num [e] * num [f]))).toNat)), qb true (F12 (kp (v12 a) 0) = O72), 1 ≤ 10000, 2 ≤ 10000, qb true (F12 (kp (v12 (F12 (kp (v12 a) (num [e]).toNat))) (num [f]).toNat) = F12 (kp (v12 a) (num (wd 2 (num [e] * num [f]))).toNat)), qb true (F12 (kp (v12 a) 0) = O72)]) := by kernel_rfl
  refine tail_ok (gs := [S]) (X2_ok.toCxB.sym (fun u h => h.1.1) (fun A' n' l' h => by
    obtain ⟨rfl, rfl, rfl⟩ := h
    exact ⟨hw, x.heap.size, fun u hu => ⟨hu.1.2, hu.2⟩⟩) []) rfl hG he (hp (by decide) (hp (by decide) (hp (⟨rfl, rfl, rfl⟩) (hp (by decide) (hp (k1) (hp (by decide) (hp (by decide) (hp (k2) (hp (k3) (hp (by decide) (hp (k2) (hp (k3) (hp (by decide) (hp (by decide) (hp (k2) (hp (k3) (hp (by decide) (hp (by decide) (hp (k2) (hp (k3) (hp (by decide) (hp (by decide) (hp (k2) (hp (k3) (hp (by decide) (hp (by decide) (hp (k2) (hp (k3) trivial)))))))))))))))))))))))))))) (mkSl_ok h1 h2) (mkSl_sok (fun p hp => ?_)) (Nat.le_refl _) ?_ hd (fun v hv x' hb gs' => ?_)
  · simp only [List.mem_cons, List.mem_nil_iff, or_false] at hp
    rcases hp with rfl | rfl | rfl | rfl | rfl
    · exact (⟨he0, by omega⟩ : 0 ≤ e ∧ e < 18446744073709551616)
    · exact (⟨hf0, by omega⟩ : 0 ≤ f ∧ f < 18446744073709551616)
    · exact (Nat.lt_succ_self 0 : 0 < 1)
    · trivial
    · trivial
  · refine ⟨RowKit.Below.refl _ _, Nat.le_refl _, rfl, fun k t r hk => ?_, fun k h1 h2 => ?_, fun j k h1 h2 h3 _ => ?_⟩
    · match k, hk with
      | 0, hk =>
        obtain ⟨rfl, rfl⟩ : 30 = t ∧ [Sg.nums 72 a] = r := by simpa [bs0] using hk
        have hden : (den [Sg.nums 72 a]).toArray = vals .u64 a := by simp [den, Sg.den, vals]
        exact ⟨by rw [hden]; exact hS, ha, trivial⟩
      | k + 1, hk => simp [bs0] at hk
    · exact absurd h2 (by simp; omega)
    · exact absurd h1 (by simp; omega)
  · have : v = .val (.bool true) := by
      simp only [List.mem_cons, List.mem_nil_iff, or_false, or_self] at hv
      exact hv
    subst this
    exact hQ x' hb
set_option maxRecDepth 100000 in
set_option maxHeartbeats 4000000 in
theorem adds (a : List Int) (ha : Nm 72 a) (e f : Int) (he0 : 0 ≤ e) (he1 : e ≤ 18446744073709551615) (hf0 : 0 ≤ f) (hf1 : f ≤ 18446744073709551615) (w : World) (hG : GlobD w) : Calls Tryd.prog 9 #[.agg (vals .u64 a), .int .u64 e, .int .u64 f] w fun r w' => r = .returned (.bool true) ∧ RowKit.Below w.heap.size w w' := by
  obtain ⟨s, c, hs, hc, hwsc, hnsc⟩ := sum_two he0 he1 hf0 hf1
  obtain ⟨hwe, hne⟩ := one_word he0 he1
  obtain ⟨hwf, hnf⟩ := one_word hf0 hf1
  have P1 : Keep (∀ w' g g', Has w' g 22 (vals .u64 [e]) → Has w' g' 22 (vals .u64 [f]) → Calls Tryd.prog 32 #[.slice (some ⟨g, 0, none⟩) 1 1, .slice (some ⟨g', 0, none⟩) 1 1] w' fun r w'' => ∃ A'' c'', r = .returned (.tuple #[.slice A'' 1 c'', .int .u64 c]) ∧ Frs w'' w'.heap.size A'' 1 .u64 [s] ∧ RowKit.Below w'.heap.size w' w'') := ⟨fun w' g g' h h' => by
    have h1 := add_c (some ⟨g, 0, none⟩) 1 1 [e] (some ⟨g', 0, none⟩) 1 1 [f] w'.heap.size w' (Rd.of_has h h.lt (by rfl) (by simp)) hwe (Rd.of_has h' h'.lt (by rfl) (by simp)) hwf (Nat.le_refl _) (by omega) (by omega)
    rw [hs, hc, Nat.max_self] at h1
    exact h1⟩
  have HD : Keep (∀ x : World, RowKit.Below w.heap.size w x → GlobD x) := ⟨fun x h => hG.keep h⟩
  have qa0 : Has (w.alloc (.cells (vals .u64 a) 30)) (w.heap.size) 30 (vals .u64 a) := (Has.new _ _ _)
  have hb0 : RowKit.Below w.heap.size w (w.alloc (.cells (vals .u64 a) 30)) := ((RowKit.Below.refl _ _).alloc (by simp <;> omega) _)
  have KA : Keep _ := ⟨ha⟩
  have KN : Keep _ := ⟨hnsc⟩
  have KW : Keep _ := ⟨hwsc⟩
  have KE : Keep _ := ⟨(⟨he0, he1, hf0, hf1⟩ : 0 ≤ e ∧ e ≤ 18446744073709551615 ∧ 0 ≤ f ∧ f ≤ 18446744073709551615)⟩
  clear hs hc hwsc hnsc hwe hne hwf hnf hG ha
  refine calls_opq (fun act x => ∃ A cA, GlobD x ∧ act.tmps.size = 66 ∧ (∀ p ∈ ([(1, .num .u64 e), (2, .num .u64 f), (3, .ptr 0 0), (7, .val (.bool true)), (10, .ext A 2 cA [s, c])] : List (Nat × AV)), act.tmps[p.1]? = some (p.2.den [w.heap.size])) ∧ act.defers = [] ∧ Has x w.heap.size 30 (vals .u64 a) ∧ Rd x x.heap.size A 2 .u64 [s, c] ∧ RowKit.Below w.heap.size w x ∧ w.heap.size ≤ x.heap.size) Tryd.func9 rfl (fun act x h => ?_) (fun R' hR' => ?_)
  · obtain ⟨A, cA, g1, g2, g3, g4, g5, g6, g7, g8⟩ := h
    exact rest_ok KA.out KE.out.1 KE.out.2.1 KE.out.2.2.1 KE.out.2.2.2 KN.out KW.out g1 g2 g3 g4 g5 g6 (fun x' hb => ⟨rfl, g7.trans (hb.mono g8)⟩)
  simp only [Tryd.ntmps9, List.size_toArray, List.length_cons, List.length_nil, Nat.reduceAdd, Nat.reduceSub, Array.replicate_succ, Array.replicate_zero, List.push_toArray, List.append_toArray, List.nil_append, List.cons_append]
  go_wp2_with (first
    | (refine append_abs (by rfl) (.tmp 24) (.tmp 26) 35 (by rfl) w4.heap.size 22 .u64 8 Tryd.underlying35 u64Elem B5 1 d5 [s] (by rfl) (ho5.keep ((RowKit.Below.refl _ _).alloc (Nat.le_refl _) _)) (v5.heap.size + 1) (some ⟨v5.heap.size, 0, none⟩) 1 1 [c] (by rfl) (Rd.of_has (Has.new v5 22 (vals .u64 [c])) (by omega) (by rfl) (by simp)) 2 (by rfl) [s, c] (by rfl) (by omega) (by unfold maxLen; omega) (by simp; omega) ?_
       intro A5 c5 w5 hoo hbx
       have hbe := (hby.alloc hby.size (.cells (vals .u64 [c]) 22)).trans hbx
       have q5a := qa4.keep hbe
       have hb5 := hb4.trans (hbe.mono hb4.size)
       have q5x := (Frs.of_own hoo).rd
       clear hoo hbx hby hbz ho5 hbe hb4 qa4)
    | (refine append_abs (by rfl) (.tmp 22) (.tmp 23) 35 (by rfl) w4.heap.size 22 .u64 8 Tryd.underlying35 u64Elem (some ⟨w4.heap.size, 0, none⟩) 0 0 [] (by rfl) (Own.of_has (Has.new w4 22 (vals .u64 [])) (Nat.le_refl _) (Nat.zero_le _)) w4.heap.size As 1 cs [s] (by rfl) (hF4.rd.keep ((RowKit.Below.refl w4.heap.size w4).alloc (Nat.le_refl _) _) (Nat.le_refl _)) 1 (by rfl) [s] (by rfl) (by omega) (by unfold maxLen; omega) (by simp) ?_
       intro B5 d5 v5 ho5 hbx
       have hby := ((RowKit.Below.refl w4.heap.size w4).alloc (Nat.le_refl _) (.cells (vals .u64 []) 22)).trans hbx
       have hbz := hby.size
       clear hbx)
    | (go_at_call 32
       refine (P1.out _ w1.heap.size (w1.heap.size + 1) ((Has.new w1 _ _).alloc _) (Has.new' _ (by simp) _ _)).mono ?_
       rintro r w4 ⟨As, cs, rfl, hF4, hq⟩
       have hbe := (((RowKit.Below.refl w1.heap.size w1).alloc (Nat.le_refl _) (.cells (vals .u64 [e]) 22)).alloc (by simp) (.cells (vals .u64 [f]) 22)).trans (hq.mono (by simp; omega))
       have qa4 := qa1.keep hbe
       have hb4 := hb1.trans (hbe.mono hb1.size)
       clear hq hbe hb1 qa1)
    | (go_at_call 11
       refine (S10L.awake.c0 _ (HD.out _ hb0)).mono ?_
       rintro e w1 ⟨rfl, hq⟩
       have qa1 := qa0.keep hq
       have hb1 := hb0.trans (hq.mono hb0.size)
       clear hq hb0 qa0))
  refine hR' _ _ ⟨A5, c5, HD.out _ hb5, rfl, fun p hp => ?_, rfl, q5a, q5x, hb5, hb5.size⟩
  simp only [List.mem_cons, List.mem_nil_iff, or_false] at hp
  rcases hp with rfl | rfl | rfl | rfl | rfl <;> rfl
end Go.Proofs.YtiepafeohgpalaaDoor.S10A
