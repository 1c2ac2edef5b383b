/-
  Own text. A reckoner of straight code, seventh part: code, functions, what is known of a call.
-/
import Derived.Test.YtpkbbdhpdplkeaaDoorSxF
import Derived.LoopN
namespace Go.Proofs.YtpkbbdhpdplkeaaDoor.Sx
set_option linter.unusedVariables false
set_option linter.unusedSimpArgs false
set_option linter.unusedSectionVars false
open Go Go.RowKit Go.Proofs.YtpkbbdhpdplkeaaDoor.Reg Go.Proofs.YtpkbbdhpdplkeaaDoor.Limb Go.Proofs.YtpkbbdhpdplkeaaDoor.Fp2
/-- How code is left. -/
inductive Ek where
  | nrm
  | ret
  | ext (id : Nat)
def Ek.ex : Ek → Exit
  | .nrm => .normal
  | .ret => .ret
  | .ext id => .exit id
abbrev O1 := List AV × List Bk × List Bool × Ek
/-- The ways in which it may go on, and what was compared. -/
abbrev Out := List O1 × List Ob
abbrev Ev := List AV → List Bk → List Bool → Option Out
/-- What follows, where the first ends. -/
def bindO (f : Ev) : List O1 → Option Out
  | [] => some ([], [])
  | (sl, bs, q, .nrm) :: r => match f sl bs q, bindO f r with
    | some (l, o), some (l2, o2) => some (l ++ l2, o ++ o2)
    | _, _ => none
  | x :: r => match bindO f r with
    | some (l, o) => some (x :: l, o)
    | none => none
def andThen (r : Option Out) (f : Ev) : Option Out := match r with
  | some (l, o) => match bindO f l with
    | some (l2, o2) => some (l2, o ++ o2)
    | none => none
  | none => none
def loopR (f : Ev) : Nat → Ev
  | 0, _, _, _ => none
  | n + 1, sl, bs, q => andThen (f sl bs q) (loopR f n)
def exB (id : Nat) : Ek → Ek
  | .ext i => if i = id then .nrm else .ext i
  | e => e
def outB (id : Nat) (r : Option Out) : Option Out := match r with
  | some (l, o) => some (l.map fun x => (x.1, x.2.1, x.2.2.1, exB id x.2.2.2), o)
  | none => none
def evalC (P : Program) (C : Cx) (m N : Nat) : Code → Ev
  | .skip, sl, bs, q => some ([(sl, bs, q, .nrm)], [])
  | .region _ ops draw, sl, bs, q => match draw with
    | true => match drawS P C m ops.toList sl bs q with
      | some (l, o1) => some (l.map fun x => (x.1, x.2.1, x.2.2, .nrm), o1)
      | none => none
    | false => match seqS P C m ops ops.toList sl bs q with
      | some (sl1, bs1, q1, o1) => some ([(sl1, bs1, q1, .nrm)], o1)
      | none => none
  | .seq a b, sl, bs, q => andThen (evalC P C m N a sl bs q) (evalC P C m N b)
  | .ret, sl, bs, q => some ([(sl, bs, q, .ret)], [])
  | .exit id, sl, bs, q => some ([(sl, bs, q, .ext id)], [])
  | .cond c x y, sl, bs, q => match ev sl c with
    | some (.val (.bool true)) => evalC P C m N x sl bs q
    | some (.val (.bool false)) => evalC P C m N y sl bs q
    | _ => none
  | .block id c, sl, bs, q => outB id (evalC P C m N c sl bs q)
  | .loop c, sl, bs, q => loopR (evalC P C m N c) N sl bs q
  | _, _, _, _ => none
section
variable {S m N : Nat} {w x y u : World} {gs : List Nat} {bs : List Bk} {sl : List AV} {G : World → Prop} {P : Program} {C : Cx}
/-- A piece of code does what is reckoned. -/
structure Does (P : Program) (S m : Nat) (w : World) (c : Code) (f : Ev) : Prop where
  go : ∀ {sl : List AV} {bs : List Bk} {q : List Bool} {gs : List Nat} {a : Act} {x : World} {Q : Exit → Act → World → Prop} {l : List O1} {obs : List Ob},
    (∀ c a d v w, Q (.panic c) (Act.put a d v) w → Q (.panic c) a w) → f sl bs q = some (l, obs) → Sl gs sl a → SOk gs.length sl → m ≤ gs.length → Wd S w m gs bs x → Holds obs →
    (∀ sl2 bs2 q2 e, (sl2, bs2, q2, e) ∈ l → ∀ gs' a' x', Sl gs' sl2 a' → SOk gs'.length sl2 → m ≤ gs'.length → a'.defers = a.defers → Wd S w m gs' bs2 x' → Q e.ex a' x') → c.wp P Q a x
theorem bindO_ok {f : Ev} : ∀ {l : List O1} {l2 : List O1} {obs : List Ob}, bindO f l = some (l2, obs) → Holds obs → ∀ sl bs q e, (sl, bs, q, e) ∈ l →
    match e with
    | .nrm => ∃ l1 o1, f sl bs q = some (l1, o1) ∧ Holds o1 ∧ ∀ x ∈ l1, x ∈ l2
    | _ => (sl, bs, q, e) ∈ l2
  | [], _, _, _, _, sl, bs, q, e, hx => by cases hx
  | (sl0, bs0, q0, e0) :: r, l2, obs, h, hH, sl, bs, q, e, hx => by
    cases e0 with
    | nrm =>
      rw [bindO] at h
      split at h
      · rename_i l o l3 o3 h1 h2
        injection h with h
        injection h with e1 e2
        subst e1 e2
        obtain ⟨ha, hb⟩ := holds_app hH
        rcases List.mem_cons.1 hx with he | hx
        · injection he with e1 he
          injection he with e2 he
          injection he with e3 e4
          subst e1 e2 e3 e4
          exact ⟨l, o, h1, ha, fun x hx => List.mem_append_left _ hx⟩
        · have := bindO_ok h2 hb sl bs q e hx
          cases e with
          | nrm =>
            obtain ⟨l1, o1, p1, p2, p3⟩ := this
            exact ⟨l1, o1, p1, p2, fun x hx => List.mem_append_right _ (p3 x hx)⟩
          | ret => exact List.mem_append_right _ this
          | ext i => exact List.mem_append_right _ this
      · cases h
    | ret =>
      rw [bindO] at h
      · split at h
        · rename_i l3 o3 h2
          injection h with h
          injection h with e1 e2
          subst e1 e2
          rcases List.mem_cons.1 hx with he | hx
          · injection he with e1 he
            injection he with e2 he
            injection he with e3 e4
            subst e1 e2 e3 e4
            exact List.mem_cons_self
          · have := bindO_ok h2 hH sl bs q e hx
            cases e with
            | nrm =>
              obtain ⟨l1, o1, p1, p2, p3⟩ := this
              exact ⟨l1, o1, p1, p2, fun x hx => List.mem_cons_of_mem _ (p3 x hx)⟩
            | ret => exact List.mem_cons_of_mem _ this
            | ext i => exact List.mem_cons_of_mem _ this
        · cases h
      · intro sl bs q he
        injection he with e1 he
        injection he with e2 he
        injection he with e3 e4
        cases e4
    | ext j =>
      rw [bindO] at h
      · split at h
        · rename_i l3 o3 h2
          injection h with h
          injection h with e1 e2
          subst e1 e2
          rcases List.mem_cons.1 hx with he | hx
          · injection he with e1 he
            injection he with e2 he
            injection he with e3 e4
            subst e1 e2 e3 e4
            exact List.mem_cons_self
          · have := bindO_ok h2 hH sl bs q e hx
            cases e with
            | nrm =>
              obtain ⟨l1, o1, p1, p2, p3⟩ := this
              exact ⟨l1, o1, p1, p2, fun x hx => List.mem_cons_of_mem _ (p3 x hx)⟩
            | ret => exact List.mem_cons_of_mem _ this
            | ext i => exact List.mem_cons_of_mem _ this
        · cases h
      · intro sl bs q he
        injection he with e1 he
        injection he with e2 he
        injection he with e3 e4
        cases e4
theorem then_ok {c : Code} {f g : Ev} (h1 : Does P S m w c f) {K : Act → World → Prop} {sl : List AV} {bs : List Bk} {q : List Bool} {gs : List Nat} {a : Act} {x : World} {Q : Exit → Act → World → Prop} {l : List O1} {obs : List Ob}
    (hQ : ∀ c a d v w, Q (.panic c) (Act.put a d v) w → Q (.panic c) a w) (he : andThen (f sl bs q) g = some (l, obs)) (h : Sl gs sl a) (ho : SOk gs.length sl) (hm : m ≤ gs.length) (H : Wd S w m gs bs x) (hH : Holds obs)
    (hK : ∀ sl2 bs2 q2 e, (sl2, bs2, q2, e) ∈ l → ∀ gs' a' x', Sl gs' sl2 a' → SOk gs'.length sl2 → m ≤ gs'.length → a'.defers = a.defers → Wd S w m gs' bs2 x' → Q e.ex a' x')
    (h2 : ∀ {sl1 bs1 q1 l1 o1 gs1 a1 x1}, g sl1 bs1 q1 = some (l1, o1) → Holds o1 → (∀ x ∈ l1, x ∈ l) → Sl gs1 sl1 a1 → SOk gs1.length sl1 → m ≤ gs1.length → Wd S w m gs1 bs1 x1 → a1.defers = a.defers → K a1 x1) : c.wp P (Exit.then K Q) a x := by
  unfold andThen at he
  have hQ' : ∀ c a d v w, Exit.then K Q (.panic c) (Act.put a d v) w → Exit.then K Q (.panic c) a w := fun c a d v w h => hQ c a d v w h
  split at he
  · rename_i l0 o0 h3
    split at he
    · rename_i l2 o2 h4
      injection he with he
      injection he with e1 e2
      subst e1 e2
      obtain ⟨ha, hb⟩ := holds_app hH
      refine h1.go hQ' h3 h ho hm H ha (fun sl2 bs2 q2 e hx gs' a' x' p1 p2 p3 p4 p5 => ?_)
      have hbo := bindO_ok h4 hb sl2 bs2 q2 e hx
      cases e with
      | nrm =>
        obtain ⟨l1, o1, r1, r2, r3⟩ := hbo
        exact h2 r1 r2 r3 p1 p2 p3 p5 p4
      | ret => exact hK _ _ _ _ hbo gs' a' x' p1 p2 p3 p4 p5
      | ext i => exact hK _ _ _ _ hbo gs' a' x' p1 p2 p3 p4 p5
    · cases he
  · cases he
theorem loop_ok {c : Code} {f : Ev} (h1 : Does P S m w c f) : ∀ n : Nat, ∀ {sl : List AV} {bs : List Bk} {q : List Bool} {gs : List Nat} {a : Act} {x : World} {Q : Exit → Act → World → Prop} {l : List O1} {obs : List Ob},
    (∀ c a d v w, Q (.panic c) (Act.put a d v) w → Q (.panic c) a w) → loopR f n sl bs q = some (l, obs) → Sl gs sl a → SOk gs.length sl → m ≤ gs.length → Wd S w m gs bs x → Holds obs →
    (∀ sl2 bs2 q2 e, (sl2, bs2, q2, e) ∈ l → ∀ gs' a' x', Sl gs' sl2 a' → SOk gs'.length sl2 → m ≤ gs'.length → a'.defers = a.defers → Wd S w m gs' bs2 x' → Q e.ex a' x') → Code.rounds P c Q n a x := by
  intro n
  induction n with
  | zero =>
    intro sl bs q gs a x Q l obs hQ he
    cases he
  | succ n ih =>
    intro sl bs q gs a x Q l obs hQ he h ho hm H hH hK
    show c.wp P (Exit.then (Code.rounds P c Q n) Q) a x
    exact then_ok h1 hQ he h ho hm H hH hK (fun h4 p6 ps p1 p2 p3 p5 p4 => ih hQ h4 p1 p2 p3 p5 p6 (fun sl2 bs2 q2 e hx gs2 a2 x2 r1 r2 r3 r4 r5 => hK sl2 bs2 q2 e (ps _ hx) gs2 a2 x2 r1 r2 r3 (r4.trans p4) r5))
theorem code_ok (hC : CxOk P C G) (hG : ∀ u, RowKit.Below S w u → G u) : ∀ c : Code, Does P S m w c (evalC P C m N c) := by
  intro c
  induction c with
  | skip =>
    refine ⟨?_⟩
    intro sl bs q gs a x Q l obs hQ he h ho hm H hH hK
    injection he with he
    injection he with e1 e2
    subst e1
    exact wp_skip (hK sl bs q .nrm (by simp) gs a x h ho hm rfl H)
  | ret =>
    refine ⟨?_⟩
    intro sl bs q gs a x Q l obs hQ he h ho hm H hH hK
    injection he with he
    injection he with e1 e2
    subst e1
    exact wp_ret (hK sl bs q .ret (by simp) gs a x h ho hm rfl H)
  | exit id =>
    refine ⟨?_⟩
    intro sl bs q gs a x Q l obs hQ he h ho hm H hH hK
    injection he with he
    injection he with e1 e2
    subst e1
    exact wp_exit (hK sl bs q (.ext id) (by simp) gs a x h ho hm rfl H)
  | region id ops draw =>
    refine ⟨?_⟩
    intro sl bs q gs a x Q l obs hQ he h ho hm H hH hK
    simp only [evalC] at he
    cases draw with
    | true =>
      simp only at he
      split at he
      · rename_i l1 o1 h1
        injection he with he
        injection he with e1 e2
        subst e1 e2
        exact draw_ok (lo := ops.toList) hC hG hQ h1 h ho hm H hH (fun sl2 bs2 q2 hx gs' a' x' p1 p2 p3 p4 p5 => hK sl2 bs2 q2 .nrm (List.mem_map.2 ⟨(sl2, bs2, q2), hx, rfl⟩) gs' a' x' p1 p2 p3 p4 p5)
      · cases he
    | false =>
      simp only at he
      split at he
      · rename_i sl1 bs1 q1 o1 h1
        injection he with he
        injection he with e1 e2
        subst e1 e2
        exact wp_region_list (seq_ok hC hG h1 h ho hm H hH (fun gs' a' x' _ => hK sl1 bs1 q1 .nrm (by simp) gs' a' x'))
      · cases he
  | seq a b iha ihb =>
    refine ⟨?_⟩
    intro sl bs q gs act x Q l obs hQ he h ho hm H hH hK
    simp only [evalC] at he
    exact wp_seq (then_ok iha hQ he h ho hm H hH hK (fun h4 p6 ps p1 p2 p3 p5 p4 => ihb.go hQ h4 p1 p2 p3 p5 p6 (fun sl2 bs2 q2 e hx gs2 a2 x2 r1 r2 r3 r4 r5 => hK sl2 bs2 q2 e (ps _ hx) gs2 a2 x2 r1 r2 r3 (r4.trans p4) r5)))
  | cond c x y ihx ihy =>
    refine ⟨?_⟩
    intro sl bs q gs act xw Q l obs hQ he h ho hm H hH hK
    simp only [evalC] at he
    split at he
    · rename_i h1
      exact wp_cond_true ((ev_ok h ho h1).1) (ihx.go hQ he h ho hm H hH hK)
    · rename_i h1
      exact wp_cond_false ((ev_ok h ho h1).1) (ihy.go hQ he h ho hm H hH hK)
    · cases he
  | block id c ih =>
    refine ⟨?_⟩
    intro sl bs q gs act xw Q l obs hQ he h ho hm H hH hK
    simp only [evalC] at he
    unfold outB at he
    have hQ' : ∀ c a d v w, Exit.inBlock id Q (.panic c) (Act.put a d v) w → Exit.inBlock id Q (.panic c) a w := fun c a d v w h => hQ c a d v w h
    split at he
    · rename_i l1 o1 h1
      injection he with he
      injection he with e1 e2
      subst e1 e2
      refine wp_block (ih.go hQ' h1 h ho hm H hH (fun sl2 bs2 q2 e hx gs' a' x' p1 p2 p3 p4 p5 => ?_))
      have := hK sl2 bs2 q2 (exB id e) (List.mem_map.2 ⟨(sl2, bs2, q2, e), hx, rfl⟩) gs' a' x' p1 p2 p3 p4 p5
      cases e with
      | nrm => exact this
      | ret => exact this
      | ext i =>
        show if i = id then Q .normal a' x' else Q (.exit i) a' x'
        simp only [exB] at this
        split
        · rename_i hi; rw [if_pos hi] at this; exact this
        · rename_i hi; rw [if_neg hi] at this; exact this
    · cases he
  | loop c ih =>
    refine ⟨?_⟩
    intro sl bs q gs act xw Q l obs hQ he h ho hm H hH hK
    simp only [evalC] at he
    exact wp_loop_rounds N (loop_ok ih N hQ he h ho hm H hH hK)
  | _ =>
    refine ⟨?_⟩
    intro sl bs q gs a x Q l obs hQ he
    simp [evalC] at he
end
def res1 (P : Program) (sl : List AV) (bs : List Bk) : ResultVar → Option TV
  | .tmp t => match sl[t]? with
    | some (.agg r) => some (.agg r)
    | some (.val v) => some (.val v)
    | _ => none
  | .cell p t => match sl[p]?, P.underlying t, P.info? t with
    | some (.ptr k 0), some d, some i => match bs[k]? with
      | some (_, r) => if d.isRow then (part r 0 i.size).map .agg else (cel r 0).map .val
      | none => none
    | _, _, _ => none
def resA (P : Program) (sl : List AV) (bs : List Bk) : List ResultVar → Option AV
  | [] => some (.val (.tuple #[]))
  | [r] => (res1 P sl bs r).map TV.av
  | [r, s] => match res1 P sl bs r, res1 P sl bs s with
    | some a, some b => some (.tup [a, b])
    | _, _ => none
  | _ => none
def resL (P : Program) (rs : List ResultVar) : List O1 → Option (List AV)
  | [] => some []
  | (_, _, _, .ext _) :: _ => none
  | (sl, bs, _, _) :: r => match resA P sl bs rs, resL P rs r with
    | some v, some l => some (v :: l)
    | _, _ => none
def evalF (P : Program) (C : Cx) (m N : Nat) (fn : Func) (args : List AV) (bs : List Bk) (q : List Bool) : Option (List AV × List Ob) :=
  match fn.body with
  | some c => match evalC P C m N c (args ++ List.replicate (fn.ntmps - args.length) (.val undef)) bs q with
    | some (l, obs) => match resL P fn.results.toList l with
      | some vs => some (vs, obs)
      | none => none
    | none => none
  | none => none
section
variable {S m N : Nat} {w x y u : World} {gs : List Nat} {bs : List Bk} {sl : List AV} {G : World → Prop} {P : Program} {C : Cx} {a : Act}
theorem res1_ok {P : Program} (h : Sl gs sl a) (ho : SOk gs.length sl) (H : Wd S w m gs bs x) {rv : ResultVar} {v : TV} (he : res1 P sl bs rv = some v) :
    v.Ok ∧ (match rv with | .tmp t => (pure (a.tmps.getD t undef) : Sem Value) | .cell p t => do loadVar t (← asAddr (a.tmps.getD p undef))).run P x = .ok v.den x := by
  cases rv with
  | tmp t =>
    simp only [res1] at he
    split at he
    · rename_i r h1
      obtain rfl := Option.some.inj he
      obtain ⟨e1, o1⟩ := ev_ok (x := .tmp t) h ho (ev_tmp h1 (by simp))
      simp only [Act.eval] at e1
      exact ⟨o1, by show (pure (a.tmps.getD t undef) : Sem Value).run P x = _; rw [e1]; rfl⟩
    · rename_i v h1
      obtain rfl := Option.some.inj he
      obtain ⟨e1, o1⟩ := ev_ok (x := .tmp t) h ho (ev_tmp h1 (by simp))
      simp only [Act.eval] at e1
      exact ⟨trivial, by show (pure (a.tmps.getD t undef) : Sem Value).run P x = _; rw [e1]; rfl⟩
    · cases he
  | cell p t =>
    simp only [res1] at he
    split at he
    · rename_i k d i h1 h2 h3
      obtain ⟨e1, o1⟩ := ev_ok (x := .tmp p) h ho (ev_tmp h1 (by simp))
      simp only [Act.eval, AV.den] at e1
      split at he
      · rename_i tb r h4
        obtain ⟨hh, hr⟩ := H.has k tb r h4
        have hadr : (asAddr (a.tmps.getD p undef)).run P x = .ok ⟨gs.getD k 0, 0, none⟩ x := by rw [e1]; simp [asAddr]
        split at he
        · rename_i hd
          obtain ⟨out, hp, rfl⟩ := Option.map_eq_some_iff.1 he
          have := load_row hh hr h2 hd h3 hp (n := 0)
          exact ⟨(part_ok hr hp).2.1, by rw [Sem.run_bind, hadr, Result.andThen_ok]; exact this⟩
        · rename_i hd
          obtain ⟨z, hp, rfl⟩ := Option.map_eq_some_iff.1 he
          have := load_cel hh hr h2 (by simpa using hd) hp
          exact ⟨trivial, by rw [Sem.run_bind, hadr, Result.andThen_ok]; exact this⟩
      · cases he
    · cases he
theorem tv_den {v : TV} : v.av.den gs = v.den := by cases v <;> rfl
theorem tv_ok {v : TV} {n : Nat} (h : v.Ok) : v.av.Ok n := by cases v <;> first | exact h | trivial
theorem resA_ok {P : Program} (h : Sl gs sl a) (ho : SOk gs.length sl) (H : Wd S w m gs bs x) {fn : Func} {v : AV} (he : resA P sl bs fn.results.toList = some v) : (∀ n, v.Ok n) ∧ (∀ gs', v.den gs' = v.den gs) ∧ (results fn a.tmps).run P x = .ok (v.den gs) x := by
  obtain ⟨l, hl⟩ : ∃ l, fn.results = l.toArray := ⟨fn.results.toList, rfl⟩
  rw [hl] at he
  simp only [] at he
  match l, hl with
  | [], hl =>
    obtain rfl := Option.some.inj he
    exact ⟨fun n => trivial, fun _ => rfl, by simp [results, hl, AV.den]⟩
  | [r], hl =>
    obtain ⟨tv, h1, rfl⟩ := Option.map_eq_some_iff.1 he
    obtain ⟨o1, r1⟩ := res1_ok h ho H h1
    refine ⟨fun n => tv_ok o1, fun _ => by rw [tv_den, tv_den], ?_⟩
    rw [tv_den]
    cases r <;> simp [results, hl] <;> simpa using r1
  | [r, s], hl =>
    simp only [resA] at he
    split at he
    · rename_i a1 a2 h1 h2
      obtain rfl := Option.some.inj he
      obtain ⟨o1, r1⟩ := res1_ok h ho H h1
      obtain ⟨o2, r2⟩ := res1_ok h ho H h2
      refine ⟨fun n => ⟨o1, o2, trivial⟩, fun _ => rfl, ?_⟩
      have : ∀ {f : ResultVar → Sem Value}, (f r).run P x = .ok a1.den x → (f s).run P x = .ok a2.den x → (do let vs ← #[r, s].mapM f; pure (if h : vs.size = 1 then vs[0] else Value.tuple vs)).run P x = .ok (.tuple #[a1.den, a2.den]) x := fun g1 g2 => by
        simp [g1, g2]
      show (results fn a.tmps).run P x = .ok (.tuple #[a1.den, a2.den]) x
      unfold results
      rw [hl]
      exact this r1 r2
    · cases he
  | _ :: _ :: _ :: _, hl => cases he
theorem resL_ok {P : Program} {rs : List ResultVar} : ∀ {l : List O1} {vs : List AV}, resL P rs l = some vs → ∀ sl bs q e, (sl, bs, q, e) ∈ l → (∀ i, e ≠ .ext i) ∧ ∃ v ∈ vs, resA P sl bs rs = some v
  | [], _, _, sl, bs, q, e, hx => by cases hx
  | (sl0, bs0, q0, e0) :: r, vs, h, sl, bs, q, e, hx => by
    have key : (∀ i, e0 ≠ .ext i) ∧ ∃ v l, resA P sl0 bs0 rs = some v ∧ resL P rs r = some l ∧ vs = v :: l := by
      cases e0 with
      | ext i => cases h
      | nrm =>
        rw [resL] at h
        · split at h
          · rename_i v l h1 h2
            obtain rfl := Option.some.inj h
            exact ⟨fun i h => (by cases h), v, l, h1, h2, rfl⟩
          · cases h
        · intro _ hx
          cases hx
      | ret =>
        rw [resL] at h
        · split at h
          · rename_i v l h1 h2
            obtain rfl := Option.some.inj h
            exact ⟨fun i h => (by cases h), v, l, h1, h2, rfl⟩
          · cases h
        · intro _ hx
          cases hx
    obtain ⟨k1, v, l, k2, k3, rfl⟩ := key
    rcases List.mem_cons.1 hx with he | hx
    · injection he with e1 he
      injection he with e2 he
      injection he with e3 e4
      subst e1 e2 e3 e4
      exact ⟨k1, v, by simp, k2⟩
    · obtain ⟨q1, v', hv, q2⟩ := resL_ok k3 sl bs q e hx
      exact ⟨q1, v', List.mem_cons_of_mem _ hv, q2⟩
/-- A function, reckoned. -/
theorem fn_ok (hC : CxOk P C G) {F : FuncId} {fn : Func} (hf : P.funcs[F]? = some fn) {args : List AV} {q : List Bool} {vs : List AV} {obs : List Ob} (he : evalF P C m N fn args bs q = some (vs, obs)) (hH : Holds obs) (hlen : gs.length = bs.length) (hm : m = bs.length)
    (ho : ∀ a ∈ args, a.Ok gs.length) (hG : ∀ u, RowKit.Below w.heap.size w u → G u) (hB : BOk gs (fun k => bs[k]?) w) : Calls P F (args.map (AV.den gs)).toArray w fun e w' => ∃ v ∈ vs, e = .returned (v.den gs) ∧ (∀ n, v.Ok n) ∧ RowKit.Below w.heap.size w w' := by
  unfold evalF at he
  split at he
  · rename_i c hb
    split at he
    · rename_i l o2 h1
      split at he
      · rename_i vs' hr
        injection he with he
        injection he with ea eb
        subst ea eb
        refine calls_of_wp hf hb ?_
        have hs : Sl gs (args ++ List.replicate (fn.ntmps - args.length) (.val undef)) { tmps := (args.map (AV.den gs)).toArray ++ Array.replicate (fn.ntmps - (args.map (AV.den gs)).toArray.size) undef, defers := [] } := by
          refine Sl.of_eq ?_
          simp [AV.den]
        refine (code_ok (S := w.heap.size) (w := w) hC hG c).go (fun c a d v w h => ?_) h1 hs (fun a ha => ?_) (by omega) ⟨Below.refl _ _, Nat.le_refl _, hlen, fun k t r hk => hB k t r hk, fun k hk hk' => by omega, fun j k hj hk hmj _ => by omega⟩ hH (fun sl2 bs2 q2 e hx gs' a' x' p1 p2 p3 p4 p5 => ?_)
        · simp only [bodyPost] at h ⊢
          refine ⟨?_, h.2⟩
          have := h.1
          cases d <;> exact this
        · rcases List.mem_append.1 ha with ha | ha
          · exact ho a ha
          · obtain rfl := (List.mem_replicate.1 ha).2
            trivial
        · obtain ⟨he, v', hv', hra⟩ := resL_ok hr sl2 bs2 q2 e hx
          obtain ⟨r1, r2, r3⟩ := resA_ok p1 p2 p5 hra
          rw [← r2 gs] at r3
          cases e with
          | nrm => exact ⟨p4, _, r3, v', hv', rfl, r1, p5.bel⟩
          | ret => exact ⟨p4, _, r3, v', hv', rfl, r1, p5.bel⟩
          | ext i => exact (he i rfl).elim
      · cases he
    · cases he
  · cases he
theorem enter_of {P : Program} {F : FuncId} {fn : Func} (hf : P.funcs[F]? = some fn) (hb : fn.body.isNone = false) (hn : (fn.name == "runtime.NumGoroutine") = false) (args : Array Value) (w : World) : (callFunc F args).run P w = .ok (.enter F args) w := by
  have h1 : ¬ fn.name = "runtime.NumGoroutine" := by simpa using hn
  have h2 : ¬ fn.body = none := fun h => by simp [h] at hb
  simp [callFunc, hf, h1, h2]
end
end Go.Proofs.YtpkbbdhpdplkeaaDoor.Sx
