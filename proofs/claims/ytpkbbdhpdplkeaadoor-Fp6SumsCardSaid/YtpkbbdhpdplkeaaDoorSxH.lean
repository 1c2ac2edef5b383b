/-
  Own text. A reckoner of straight code, eighth part: what is known of calls from words to words; calls that are walked in their place.
-/
import Derived.Test.YtpkbbdhpdplkeaaDoorSxG
namespace Go.Proofs.YtpkbbdhpdplkeaaDoor.Sx
set_option linter.unusedVariables false
set_option linter.unusedSimpArgs false
set_option linter.unusedSectionVars false
open Go Go.RowKit Go.Proofs.YtpkbbdhpdplkeaaDoor.Reg Go.Proofs.YtpkbbdhpdplkeaaDoor.Limb Go.Proofs.YtpkbbdhpdplkeaaDoor.Fp2
/-- The words of the arguments, so many each. -/
def wsOf : List Nat → List AV → Option (List (List Int))
  | [], [] => some []
  | n :: ns, .agg r :: vs => match mg r, wsOf ns vs with
    | some (k, xs), some l => if k = n then some (xs :: l) else none
    | _, _ => none
  | _, _ => none
def Nms : List Nat → List (List Int) → Prop
  | [], [] => True
  | n :: ns, x :: l => Nm n x ∧ Nms ns l
  | _, _ => False
def avs : List Nat → List (List Int) → List AV
  | n :: ns, x :: l => .agg [.nums n x] :: avs ns l
  | _, _ => []
def vws (l : List (List Int)) : List Value := l.map fun x => .agg (vals .u64 x)
/-- A call from words to a value. -/
def entW (ns : List Nat) (f : List (List Int) → AV) : Ent := fun _ _ args => (wsOf ns args).map f
section
variable {P : Program} {C : Cx} {G : World → Prop} {F : FuncId} {fn : Func} {n : Nat} {ns : List Nat}
theorem agg_vals {r : Row} {xs : List Int} {k : Nat} {gs : List Nat} (ho : Ok r) (h : mg r = some (k, xs)) : (AV.agg r).den gs = .agg (vals .u64 xs) ∧ Nm k xs := by
  obtain ⟨h1, h2⟩ := mg_ok ho h
  exact ⟨by rw [AV.den, h2]; rfl, h1⟩
theorem den_nums {n : Nat} {xs : List Int} {gs : List Nat} : (AV.agg [.nums n xs]).den gs = .agg (vals .u64 xs) := by
  simp [AV.den, den, Sg.den, vals]
theorem wsOf_ok {gs : List Nat} {m : Nat} : ∀ {ns : List Nat} {vs : List AV} {l : List (List Int)}, (∀ a ∈ vs, a.Ok m) → wsOf ns vs = some l → Nms ns l ∧ vs.map (AV.den gs) = vws l
  | [], [], l, _, h => by obtain rfl := Option.some.inj h; exact ⟨trivial, rfl⟩
  | n :: ns, .agg r :: vs, l, ho, h => by
    unfold wsOf at h
    split at h
    · rename_i k xs l' h1 h2
      split at h
      · rename_i hk
        subst hk
        obtain rfl := Option.some.inj h
        obtain ⟨d1, m1⟩ := agg_vals (gs := gs) (ho (.agg r) (by simp)) h1
        obtain ⟨i1, i2⟩ := wsOf_ok (gs := gs) (fun a ha => ho a (List.mem_cons_of_mem _ ha)) h2
        exact ⟨⟨m1, i1⟩, by rw [List.map_cons, d1, i2]; rfl⟩
      · cases h
    · cases h
  | [], _ :: _, _, _, h => by cases h
  | _ :: _, [], _, _, h => by cases h
  | _ :: _, .ptr _ _ :: _, _, _, h => by cases h
  | _ :: _, .val _ :: _, _, _, h => by cases h
  | _ :: _, .slc _ _ _ _ :: _, _, _, h => by cases h
  | _ :: _, .tup _ :: _, _, _, h => by cases h
  | _ :: _, .fn _ _ :: _, _, _, h => by cases h
  | _ :: _, .num _ _ :: _, _, _, h => by cases h
  | _ :: _, .unk :: _, _, _, h => by cases h
theorem avs_den {gs : List Nat} : ∀ {ns : List Nat} {l : List (List Int)}, Nms ns l → (avs ns l).map (AV.den gs) = vws l ∧ ∀ a ∈ avs ns l, a.Ok 0
  | [], [], _ => ⟨rfl, by simp [avs]⟩
  | n :: ns, x :: l, h => by
    obtain ⟨i1, i2⟩ := avs_den (gs := gs) h.2
    refine ⟨by rw [avs, List.map_cons, den_nums, i1]; rfl, fun a ha => ?_⟩
    rcases List.mem_cons.1 ha with rfl | ha
    · exact ⟨h.1, trivial⟩
    · exact i2 a ha
  | [], _ :: _, h => h.elim
  | _ :: _, [], h => h.elim
/-- What is known, with its proof. -/
structure Fact (P : Program) (G : World → Prop) where
  F : FuncId
  e : Ent
  ok : EOk P G F e
def tb {P : Program} {G : World → Prop} : List (Fact P G) → Tbl
  | [] => []
  | x :: l => (x.F, x.e) :: tb l
theorem tb_ok {P : Program} {G : World → Prop} : ∀ l : List (Fact P G), TOk P G (tb l)
  | [] => trivial
  | x :: l => ⟨x.ok, tb_ok l⟩
theorem cx_ok {P : Program} {G : World → Prop} {E : List (TypeId × Nat)} (l : List (Fact P G)) (hE : EqT P E) (hm : P.follows .mixedOrders = true) : CxOk P ⟨E, tb l⟩ G := ⟨tb_ok l, hE, hm⟩
/-- A call of these words answers so. -/
def At (P : Program) (G : World → Prop) (F : FuncId) (l : List (List Int)) (v : AV) : Prop :=
  (∀ n, v.Ok n) ∧ (∀ gs, v.den gs = v.den []) ∧ ∀ w, G w → Calls P F (vws l).toArray w fun e w' => e = .returned (v.den []) ∧ RowKit.Below w.heap.size w w'
/-- The contract of such a call. -/
def Con (P : Program) (G : World → Prop) (F : FuncId) (ns : List Nat) (f : List (List Int) → AV) : Prop :=
  ∀ l, Nms ns l → At P G F l (f l)
def Con.fact {P : Program} {G : World → Prop} {F : FuncId} {ns : List Nat} {f : List (List Int) → AV} (hc : Con P G F ns f) (h : EOk P G F (entW ns f)) : Fact P G := ⟨F, entW ns f, h⟩
theorem EOk.con {f : List (List Int) → AV} (hf : P.funcs[F]? = some fn) (hb : fn.body.isNone = false) (hn : (fn.name == "runtime.NumGoroutine") = false) (hc : Con P G F ns f) : EOk P G F (entW ns f) := by
  refine ⟨enter_of hf hb hn, fun bl args v gs he ho w hG _ => ?_⟩
  obtain ⟨l, hl, rfl⟩ := Option.map_eq_some_iff.1 he
  obtain ⟨h1, h2⟩ := wsOf_ok (gs := gs) ho hl
  obtain ⟨c1, c2, c3⟩ := hc l h1
  refine ⟨c1 _, ?_⟩
  rw [h2, c2]
  exact c3 w hG
/-- A call that is walked in its place: what it is handed of own blocks it may read. -/
def relo : List AV → Nat → Option (List AV × List Nat)
  | [], _ => some ([], [])
  | .ptr k off :: r, i => match relo r (i + 1) with
    | some (l, ks) => some (.ptr i off :: l, k :: ks)
    | none => none
  | .slc k off n c :: r, i => match relo r (i + 1) with
    | some (l, ks) => some (.slc i off n c :: l, k :: ks)
    | none => none
  | .agg w :: r, i => match relo r i with
    | some (l, ks) => some (.agg w :: l, ks)
    | none => none
  | .val v :: r, i => match relo r i with
    | some (l, ks) => some (.val v :: l, ks)
    | none => none
  | .num k x :: r, i => match relo r i with
    | some (l, ks) => some (.num k x :: l, ks)
    | none => none
  | _, _ => none
def bks (bl : Nat → Option Bk) : List Nat → Option (List Bk)
  | [] => some []
  | k :: ks => match bl k, bks bl ks with
    | some b, some l => some (b :: l)
    | _, _ => none
def plain : AV → Bool
  | .agg _ | .val _ | .tup _ | .num _ _ => true
  | _ => false
def entI (F : FuncId) (C : Cx) (N : Nat) : Ent := fun P bl args => match P.funcs[F]? with
  | some fn => match relo args 0 with
    | some (l, ks) => match bks bl ks with
      | some bs => match evalF P C bs.length N fn l bs [] with
        | some ([v], []) => if plain v then some v else none
        | _ => none
      | none => none
    | none => none
  | none => none
theorem relo_ok {gs : List Nat} : ∀ {args : List AV} {i : Nat} {l : List AV} {ks hs : List Nat}, (∀ a ∈ args, a.Ok gs.length) → relo args i = some (l, ks) → hs.length = i → l.map (AV.den (hs ++ ks.map fun k => gs.getD k 0)) = args.map (AV.den gs) ∧ (∀ a ∈ l, a.Ok (i + ks.length))
  | [], i, l, ks, hs, _, h, _ => by
    injection h with h
    injection h with h1 h2
    subst h1 h2
    exact ⟨rfl, by simp⟩
  | .ptr k off :: r, i, l, ks, hs, ho, h, hi => by
    rw [relo] at h
    split at h
    · rename_i l' ks' h1
      injection h with h
      injection h with e1 e2
      subst e1 e2
      obtain ⟨a1, a2⟩ := relo_ok (gs := gs) (hs := hs ++ [gs.getD k 0]) (fun a ha => ho a (List.mem_cons_of_mem _ ha)) h1 (by simp [hi])
      rw [List.append_assoc] at a1
      refine ⟨?_, fun a ha => ?_⟩
      · have : (AV.ptr i off).den (hs ++ (k :: ks').map fun k => gs.getD k 0) = (AV.ptr k off).den gs := by
          subst hi
          simp [AV.den, List.getD]
        show (AV.ptr i off).den _ :: l'.map _ = _ :: _
        rw [this]
        exact congrArg _ a1
      · rcases List.mem_cons.1 ha with rfl | ha
        · show i < i + (k :: ks').length
          simp
        · have := a2 a ha
          rwa [List.length_cons, show i + (ks'.length + 1) = i + 1 + ks'.length by omega]
    · cases h
  | .slc k off n c :: r, i, l, ks, hs, ho, h, hi => by
    rw [relo] at h
    split at h
    · rename_i l' ks' h1
      injection h with h
      injection h with e1 e2
      subst e1 e2
      obtain ⟨a1, a2⟩ := relo_ok (gs := gs) (hs := hs ++ [gs.getD k 0]) (fun a ha => ho a (List.mem_cons_of_mem _ ha)) h1 (by simp [hi])
      rw [List.append_assoc] at a1
      refine ⟨?_, fun a ha => ?_⟩
      · have : (AV.slc i off n c).den (hs ++ (k :: ks').map fun k => gs.getD k 0) = (AV.slc k off n c).den gs := by
          subst hi
          simp [AV.den, List.getD]
        show (AV.slc i off n c).den _ :: l'.map _ = _ :: _
        rw [this]
        exact congrArg _ a1
      · rcases List.mem_cons.1 ha with rfl | ha
        · show i < i + (k :: ks').length
          simp
        · have := a2 a ha
          rwa [List.length_cons, show i + (ks'.length + 1) = i + 1 + ks'.length by omega]
    · cases h
  | .agg w :: r, i, l, ks, hs, ho, h, hi => by
    rw [relo] at h
    split at h
    · rename_i l' ks' h1
      injection h with h
      injection h with e1 e2
      subst e1 e2
      obtain ⟨a1, a2⟩ := relo_ok (gs := gs) (hs := hs) (fun a ha => ho a (List.mem_cons_of_mem _ ha)) h1 hi
      refine ⟨by rw [List.map_cons, List.map_cons, a1]; rfl, fun a ha => ?_⟩
      rcases List.mem_cons.1 ha with rfl | ha
      · exact ho (.agg w) (by simp)
      · exact a2 a ha
    · cases h
  | .val w :: r, i, l, ks, hs, ho, h, hi => by
    rw [relo] at h
    split at h
    · rename_i l' ks' h1
      injection h with h
      injection h with e1 e2
      subst e1 e2
      obtain ⟨a1, a2⟩ := relo_ok (gs := gs) (hs := hs) (fun a ha => ho a (List.mem_cons_of_mem _ ha)) h1 hi
      refine ⟨by rw [List.map_cons, List.map_cons, a1]; rfl, fun a ha => ?_⟩
      rcases List.mem_cons.1 ha with rfl | ha
      · trivial
      · exact a2 a ha
    · cases h
  | .num k x :: r, i, l, ks, hs, ho, h, hi => by
    rw [relo] at h
    split at h
    · rename_i l' ks' h1
      injection h with h
      injection h with e1 e2
      subst e1 e2
      obtain ⟨a1, a2⟩ := relo_ok (gs := gs) (hs := hs) (fun a ha => ho a (List.mem_cons_of_mem _ ha)) h1 hi
      refine ⟨by rw [List.map_cons, List.map_cons, a1]; rfl, fun a ha => ?_⟩
      rcases List.mem_cons.1 ha with rfl | ha
      · exact ho (.num k x) (by simp)
      · exact a2 a ha
    · cases h
  | .tup _ :: _, _, _, _, _, _, h, _ => by cases h
  | .fn _ _ :: _, _, _, _, _, _, h, _ => by cases h
  | .unk :: _, _, _, _, _, _, h, _ => by cases h
theorem bks_ok {bl : Nat → Option Bk} : ∀ {ks : List Nat} {bs : List Bk}, bks bl ks = some bs → bs.length = ks.length ∧ ∀ (i : Nat) (b : Bk), bs[i]? = some b → ∃ k, ks[i]? = some k ∧ bl k = some b
  | [], bs, h => by
    obtain rfl := Option.some.inj h
    exact ⟨rfl, fun i b h => by simp at h⟩
  | k :: ks, bs, h => by
    unfold bks at h
    split at h
    · rename_i b l h1 h2
      obtain rfl := Option.some.inj h
      obtain ⟨a1, a2⟩ := bks_ok h2
      refine ⟨by simp [a1], fun i c hc => ?_⟩
      cases i with
      | zero =>
        obtain rfl : b = c := by simpa using hc
        exact ⟨k, rfl, h1⟩
      | succ i => exact a2 i c (by simpa using hc)
    · cases h
theorem plain_den {v : AV} (h : plain v = true) (gs gs' : List Nat) : v.den gs = v.den gs' := by cases v <;> first | rfl | cases h
theorem EOk.inline {N : Nat} (hC : CxOk P C G) (hk : ∀ {u v : World}, G u → RowKit.Below u.heap.size u v → G v) (hf : P.funcs[F]? = some fn) (hb : fn.body.isNone = false) (hn : (fn.name == "runtime.NumGoroutine") = false) : EOk P G F (entI F C N) := by
  refine ⟨enter_of hf hb hn, fun bl args v gs he ho w hG hB => ?_⟩
  unfold entI at he
  rw [hf] at he
  simp only at he
  split at he
  · rename_i l ks h1
    split at he
    · rename_i bs h2
      split at he
      · rename_i v' h3
        split at he
        · rename_i hp
          obtain rfl := Option.some.inj he
          obtain ⟨a1, a2⟩ := relo_ok (gs := gs) (hs := []) ho h1 rfl
          obtain ⟨b1, b2⟩ := bks_ok h2
          rw [List.nil_append] at a1
          have hlen : (ks.map fun k => gs.getD k 0).length = bs.length := by simp [b1]
          have hc := fn_ok (gs := ks.map fun k => gs.getD k 0) (w := w) hC hf h3 trivial hlen rfl (fun a ha => by
            have := a2 a ha
            rw [Nat.zero_add] at this
            rw [List.length_map]
            exact this) (fun u hu => hk hG hu) (fun i t r hi => by
            obtain ⟨k, hk1, hk2⟩ := b2 i (t, r) hi
            have : (ks.map fun k => gs.getD k 0).getD i 0 = gs.getD k 0 := by simp [List.getD, hk1]
            rw [this]
            exact hB k t r hk2)
          have hc : Calls P F ((l.map (AV.den (ks.map fun k => gs.getD k 0))).toArray) w fun e w' => e = .returned (v'.den (ks.map fun k => gs.getD k 0)) ∧ (∀ n, v'.Ok n) ∧ RowKit.Below w.heap.size w w' := hc.mono fun e w' h => by
            obtain ⟨u, hu, r⟩ := h
            obtain rfl : u = v' := by simpa using hu
            exact r
          obtain ⟨_, _, _, hr, _⟩ := hc []
          refine ⟨hr.2.1 _, ?_⟩
          rw [← a1, plain_den hp gs (ks.map fun k => gs.getD k 0)]
          exact hc.mono fun e w' h => ⟨h.1, h.2.2⟩
        · cases he
      · cases he
    · cases he
  · cases he
/-- From what is reckoned: so many ways, one answer. -/
def outV : AV → Option AV
  | .agg r => match mg r with
    | some (k, xs) => some (.agg [.nums k xs])
    | none => some (.agg r)
  | v => some v
def outL : List AV → Option (List AV)
  | [] => some []
  | v :: l => match outV v, outL l with
    | some u, some r => some (u :: r)
    | _, _ => none
def outW (r : Option (List AV × List Ob)) : Option (List AV × List Ob) := match r with
  | some (l, obs) => match outL l with
    | some vs => some (vs, obs)
    | none => none
  | none => none
theorem outV_den {v u : AV} {gs : List Nat} (h : outV v = some u) (ho : ∀ n, v.Ok n) : u.den gs = v.den gs := by
  cases v with
  | agg r =>
    simp only [outV] at h
    split at h
    · rename_i k xs hm
      obtain rfl := Option.some.inj h
      rw [den_nums, (agg_vals (ho 0) hm).1]
    · obtain rfl := Option.some.inj h
      rfl
  | _ => obtain rfl := Option.some.inj h; rfl
theorem outL_ok {v : AV} : ∀ {vs : List AV} {n : Nat}, outL vs = some (List.replicate n v) → ∀ u ∈ vs, outV u = some v
  | [], _, _, u, hu => by cases hu
  | x :: r, n, h, u, hu => by
    rw [outL] at h
    split at h
    · rename_i a b h1 h2
      injection h with h
      cases n with
      | zero => cases h
      | succ n =>
        rw [List.replicate_succ] at h
        injection h with e1 e2
        subst e1 e2
        rcases List.mem_cons.1 hu with rfl | hu
        · exact h1
        · exact outL_ok h2 u hu
    · cases h
theorem At.ofk (hC : CxOk P C G) (hk : ∀ {u v : World}, G u → RowKit.Below u.heap.size u v → G v) (hf : P.funcs[F]? = some fn) {l : List (List Int)} {v zs : AV} {obs : List Ob} (N : Nat) (q : List Bool) (hl : Nms ns l) (k : Nat)
    (hN : ∀ n, v.Ok n) (hp : plain v = true) (hz : zs = v) (hH : Holds obs) (he : outW (evalF P C 0 N fn (avs ns l) [] q) = some (List.replicate (k + 1) zs, obs)) : At P G F l v := by
  rw [hz] at he
  obtain ⟨d1, o1⟩ := avs_den (gs := []) hl
  refine ⟨hN, fun gs => plain_den hp _ _, fun w hG => ?_⟩
  unfold outW at he
  split at he
  · rename_i vs obs' h1
    split at he
    · rename_i us h2
      injection he with he
      injection he with ea eb
      subst ea eb
      have := fn_ok (gs := []) (w := w) hC hf h1 hH rfl rfl o1 (fun u hu => hk hG hu) (fun k t r h => by simp at h)
      rw [d1] at this
      exact this.mono fun e w' ⟨u, hu, g1, g2, g3⟩ => ⟨by rw [g1, outV_den (outL_ok h2 u hu) g2], g3⟩
    · cases he
  · cases he
theorem At.of (hC : CxOk P C G) (hk : ∀ {u v : World}, G u → RowKit.Below u.heap.size u v → G v) (hf : P.funcs[F]? = some fn) {l : List (List Int)} {v zs : AV} {obs : List Ob} (N : Nat) (q : List Bool) (hl : Nms ns l)
    (hN : ∀ n, v.Ok n) (hp : plain v = true) (hz : zs = v) (hH : Holds obs) (he : outW (evalF P C 0 N fn (avs ns l) [] q) = some ([zs], obs)) : At P G F l v := .ofk hC hk hf N q hl 0 hN hp hz hH he
theorem Con.of (hC : CxOk P C G) (hk : ∀ {u v : World}, G u → RowKit.Below u.heap.size u v → G v) (hf : P.funcs[F]? = some fn) {f : List (List Int) → AV} {zs : List (List Int) → AV} {obs : List (List Int) → List Ob} (N : Nat) (q : List Bool)
    (hN : ∀ l, Nms ns l → ∀ n, (f l).Ok n) (hp : ∀ l, Nms ns l → plain (f l) = true) (hz : ∀ l, Nms ns l → zs l = f l ∧ Holds (obs l)) (he : ∀ l, Nms ns l → outW (evalF P C 0 N fn (avs ns l) [] q) = some ([zs l], obs l)) : Con P G F ns f := fun l hl =>
  .of hC hk hf N q hl (hN l hl) (hp l hl) (hz l hl).1 (hz l hl).2 (he l hl)
end
/-- The same, with one, two, three arguments; none. -/
def f0 (v : AV) : List (List Int) → AV := fun _ => v
def f1 (f : List Int → AV) : List (List Int) → AV
  | [x] => f x
  | _ => .val undef
def f2 (f : List Int → List Int → AV) : List (List Int) → AV
  | [x, y] => f x y
  | _ => .val undef
def f3 (f : List Int → List Int → List Int → AV) : List (List Int) → AV
  | [x, y, z] => f x y z
  | _ => .val undef
/-- So many words. -/
abbrev W (n : Nat) (xs : List Int) : AV := .agg [.nums n xs]
section
variable {P : Program} {C : Cx} {G : World → Prop} {F : FuncId} {fn : Func} {n n1 n2 n3 : Nat}
theorem w_ok {xs : List Int} (h : Nm n xs) (k : Nat) : (W n xs).Ok k := ⟨h, trivial⟩
theorem w_den {xs : List Int} {gs : List Nat} : (W n xs).den gs = .agg (vals .u64 xs) := den_nums
theorem Con.of0 (hC : CxOk P C G) (hk : ∀ {u v : World}, G u → RowKit.Below u.heap.size u v → G v) (hf : P.funcs[F]? = some fn) (N : Nat) (q : List Bool) {v zs : AV} {obs : List Ob} (hN : ∀ k, v.Ok k) (hp : plain v = true) (hz : zs = v ∧ Holds obs) (he : outW (evalF P C 0 N fn [] [] q) = some ([zs], obs)) : Con P G F [] (f0 v) :=
  Con.of hC hk hf (zs := fun _ => zs) (obs := fun _ => obs) N q (fun l h k => hN k) (fun l h => hp) (fun l h => hz) (fun l h => he)
theorem Con.of1 (hC : CxOk P C G) (hk : ∀ {u v : World}, G u → RowKit.Below u.heap.size u v → G v) (hf : P.funcs[F]? = some fn) (N : Nat) (q : List Bool) {f zs : List Int → AV} {obs : List Int → List Ob} (hN : ∀ x, Nm n1 x → ∀ k, (f x).Ok k) (hp : ∀ x, plain (f x) = true) (hz : ∀ x, Nm n1 x → zs x = f x ∧ Holds (obs x)) (he : ∀ x, outW (evalF P C 0 N fn [W n1 x] [] q) = some ([zs x], obs x)) : Con P G F [n1] (f1 f) := by
  refine Con.of hC hk hf (zs := f1 zs) (obs := fun l => match l with | [x] => obs x | _ => []) N q (fun l h => ?_) (fun l h => ?_) (fun l h => ?_) (fun l h => ?_)
  all_goals
    obtain ⟨x, rfl⟩ : ∃ x, l = [x] := by
      match l, h with
      | [x], _ => exact ⟨x, rfl⟩
  · exact hN x h.1
  · exact hp x
  · exact hz x h.1
  · exact he x
theorem Con.of2 (hC : CxOk P C G) (hk : ∀ {u v : World}, G u → RowKit.Below u.heap.size u v → G v) (hf : P.funcs[F]? = some fn) (N : Nat) (q : List Bool) {f zs : List Int → List Int → AV} {obs : List Int → List Int → List Ob} (hN : ∀ x y, Nm n1 x → Nm n2 y → ∀ k, (f x y).Ok k) (hp : ∀ x y, plain (f x y) = true) (hz : ∀ x y, Nm n1 x → Nm n2 y → zs x y = f x y ∧ Holds (obs x y)) (he : ∀ x y, outW (evalF P C 0 N fn [W n1 x, W n2 y] [] q) = some ([zs x y], obs x y)) : Con P G F [n1, n2] (f2 f) := by
  refine Con.of hC hk hf (zs := f2 zs) (obs := fun l => match l with | [x, y] => obs x y | _ => []) N q (fun l h => ?_) (fun l h => ?_) (fun l h => ?_) (fun l h => ?_)
  all_goals
    obtain ⟨x, y, rfl⟩ : ∃ x y, l = [x, y] := by
      match l, h with
      | [x, y], _ => exact ⟨x, y, rfl⟩
  · exact hN x y h.1 h.2.1
  · exact hp x y
  · exact hz x y h.1 h.2.1
  · exact he x y
theorem Con.of3 (hC : CxOk P C G) (hk : ∀ {u v : World}, G u → RowKit.Below u.heap.size u v → G v) (hf : P.funcs[F]? = some fn) (N : Nat) (q : List Bool) {f zs : List Int → List Int → List Int → AV} {obs : List Int → List Int → List Int → List Ob} (hN : ∀ x y z, Nm n1 x → Nm n2 y → Nm n3 z → ∀ k, (f x y z).Ok k) (hp : ∀ x y z, plain (f x y z) = true) (hz : ∀ x y z, Nm n1 x → Nm n2 y → Nm n3 z → zs x y z = f x y z ∧ Holds (obs x y z)) (he : ∀ x y z, outW (evalF P C 0 N fn [W n1 x, W n2 y, W n3 z] [] q) = some ([zs x y z], obs x y z)) : Con P G F [n1, n2, n3] (f3 f) := by
  refine Con.of hC hk hf (zs := f3 zs) (obs := fun l => match l with | [x, y, z] => obs x y z | _ => []) N q (fun l h => ?_) (fun l h => ?_) (fun l h => ?_) (fun l h => ?_)
  all_goals
    obtain ⟨x, y, z, rfl⟩ : ∃ x y z, l = [x, y, z] := by
      match l, h with
      | [x, y, z], _ => exact ⟨x, y, z, rfl⟩
  · exact hN x y z h.1 h.2.1 h.2.2.1
  · exact hp x y z
  · exact hz x y z h.1 h.2.1 h.2.2.1
  · exact he x y z
end
section
variable {P : Program} {C : Cx} {G : World → Prop} {F : FuncId} {fn : Func} {n n1 n2 n3 : Nat}
/-- From words to words, nothing compared. -/
theorem Con.w1 (hC : CxOk P C G) (hk : ∀ {u v : World}, G u → RowKit.Below u.heap.size u v → G v) (hf : P.funcs[F]? = some fn) (N : Nat) {f zs : List Int → List Int} (hN : ∀ x, Nm n1 x → Nm n (f x)) (hz : ∀ x, Nm n1 x → zs x = f x) (he : ∀ x, outW (evalF P C 0 N fn [W n1 x] [] []) = some ([W n (zs x)], [])) : Con P G F [n1] (f1 fun x => W n (f x)) :=
  .of1 hC hk hf N [] (zs := fun x => W n (zs x)) (obs := fun _ => []) (fun x h => w_ok (hN x h)) (fun x => rfl) (fun x h => ⟨by rw [hz x h], trivial⟩) he
theorem Con.w2 (hC : CxOk P C G) (hk : ∀ {u v : World}, G u → RowKit.Below u.heap.size u v → G v) (hf : P.funcs[F]? = some fn) (N : Nat) {f zs : List Int → List Int → List Int} (hN : ∀ x y, Nm n1 x → Nm n2 y → Nm n (f x y)) (hz : ∀ x y, Nm n1 x → Nm n2 y → zs x y = f x y) (he : ∀ x y, outW (evalF P C 0 N fn [W n1 x, W n2 y] [] []) = some ([W n (zs x y)], [])) : Con P G F [n1, n2] (f2 fun x y => W n (f x y)) :=
  .of2 hC hk hf N [] (zs := fun x y => W n (zs x y)) (obs := fun _ _ => []) (fun x y h k => w_ok (hN x y h k)) (fun x y => rfl) (fun x y h k => ⟨by rw [hz x y h k], trivial⟩) he
end
section
variable {P : Program} {G : World → Prop} {F : FuncId} {n n1 n2 n3 : Nat}
/-- A contract that is told in the plain form. -/
theorem Con.un {f : List Int → List Int} (hN : ∀ x, Nm n1 x → Nm n (f x)) (h : ∀ x, Nm n1 x → ∀ w, G w → Calls P F #[.agg (vals .u64 x)] w fun e w' => e = .returned (.agg (vals .u64 (f x))) ∧ RowKit.Below w.heap.size w w') : Con P G F [n1] (f1 fun x => W n (f x)) := by
  intro l hl
  match l, hl with
  | [x], hx =>
    refine ⟨fun k => w_ok (hN x hx.1) k, fun gs => by rw [f1, w_den, w_den], fun w hG => ?_⟩
    rw [f1, w_den]
    exact h x hx.1 w hG
theorem Con.bi {f : List Int → List Int → List Int} (hN : ∀ x y, Nm n1 x → Nm n2 y → Nm n (f x y)) (h : ∀ x, Nm n1 x → ∀ y, Nm n2 y → ∀ w, G w → Calls P F #[.agg (vals .u64 x), .agg (vals .u64 y)] w fun e w' => e = .returned (.agg (vals .u64 (f x y))) ∧ RowKit.Below w.heap.size w w') : Con P G F [n1, n2] (f2 fun x y => W n (f x y)) := by
  intro l hl
  match l, hl with
  | [x, y], hx =>
    refine ⟨fun k => w_ok (hN x y hx.1 hx.2.1) k, fun gs => by rw [f2, w_den, w_den], fun w hG => ?_⟩
    rw [f2, w_den]
    exact h x hx.1 y hx.2.1 w hG
/-- The plain form of a contract. -/
theorem Con.c0 {v : AV} (h : Con P G F [] (f0 v)) (w : World) (hG : G w) : Calls P F #[] w fun e w' => e = .returned (v.den []) ∧ RowKit.Below w.heap.size w w' := (h [] trivial).2.2 w hG
theorem Con.c1 {f : List Int → AV} (h : Con P G F [n1] (f1 f)) {x : List Int} (hx : Nm n1 x) (w : World) (hG : G w) : Calls P F #[.agg (vals .u64 x)] w fun e w' => e = .returned ((f x).den []) ∧ RowKit.Below w.heap.size w w' := (h [x] ⟨hx, trivial⟩).2.2 w hG
theorem Con.c2 {f : List Int → List Int → AV} (h : Con P G F [n1, n2] (f2 f)) {x y : List Int} (hx : Nm n1 x) (hy : Nm n2 y) (w : World) (hG : G w) : Calls P F #[.agg (vals .u64 x), .agg (vals .u64 y)] w fun e w' => e = .returned ((f x y).den []) ∧ RowKit.Below w.heap.size w w' := (h [x, y] ⟨hx, hy, trivial⟩).2.2 w hG
theorem Con.c3 {f : List Int → List Int → List Int → AV} (h : Con P G F [n1, n2, n3] (f3 f)) {x y z : List Int} (hx : Nm n1 x) (hy : Nm n2 y) (hz : Nm n3 z) (w : World) (hG : G w) : Calls P F #[.agg (vals .u64 x), .agg (vals .u64 y), .agg (vals .u64 z)] w fun e w' => e = .returned ((f x y z).den []) ∧ RowKit.Below w.heap.size w w' := (h [x, y, z] ⟨hx, hy, hz, trivial⟩).2.2 w hG
end
end Go.Proofs.YtpkbbdhpdplkeaaDoor.Sx
