/-
  Own text. A region that draws its order: an operation that yields one value in every world behind, and makes new memory at most, may be taken first, whatever the others make; the others are run where they alone are ready.
-/
import Derived.Test.YthaoebamnlmfpaaRegC
import Derived.Test.YthaoebamnlmfpaaMem
namespace Go.Proofs.Ythaoebamnlmfpaa.Reg
open Go
section
variable {P : Program} {ops : Array Oper} {md : Region.Mode} {Q : Exit → Act → World → Prop} {S : World → Prop}

/-- Whatever order is picked, from every world behind; each step keeps S. -/
def wpAnyU (P : Program) (md : Region.Mode) (ops : Array Oper) (Q : Exit → Act → World → Prop) (S : World → Prop) : Nat → Array Bool → Act → World → Prop
  | 0, listed, a, w => Region.ready md ops listed = [] ∧ ∀ w', RowKit.Below w.heap.size w w' → Q .normal a w'
  | f + 1, listed, a, w => Region.ready md ops listed ≠ [] ∧ ∀ i ∈ Region.ready md ops listed, ∀ w', RowKit.Below w.heap.size w w' →
      wpOp P ops Q i (fun a' w'' => S w'' ∧ wpAnyU P md ops Q S f (listed.setIfInBounds i true) a' w'') a w'
theorem wpAny_of_U : ∀ (f : Nat) (listed : Array Bool) (a : Act) (w : World), wpAnyU P md ops Q S f listed a w → wpAny P md ops Q f listed a w
  | 0, _, _, _, h => ⟨h.1, h.2 _ (RowKit.Below.refl _ _)⟩
  | f + 1, _, _, w, h => ⟨fun h0 => absurd h0 h.1, fun i hi => wpOp_mono (fun a' w' h' => wpAny_of_U f _ a' w' h'.2) (h.2 i hi w (RowKit.Below.refl _ _))⟩
theorem below_tr {a b c : World} (h : RowKit.Below a.heap.size a b) (k : RowKit.Below b.heap.size b c) : RowKit.Below a.heap.size a c := h.trans (k.mono h.size)
theorem wpAnyU_up : ∀ {f : Nat} {listed : Array Bool} {a : Act} {w w' : World}, wpAnyU P md ops Q S f listed a w → RowKit.Below w.heap.size w w' → wpAnyU P md ops Q S f listed a w'
  | 0, _, _, _, _, h, hb => ⟨h.1, fun w2 h2 => h.2 w2 (below_tr hb h2)⟩
  | _ + 1, _, _, _, _, h, hb => ⟨h.1, fun i hi w2 h2 => h.2 i hi w2 (below_tr hb h2)⟩

/-- One value in every world that meets S; new memory at most. -/
def Steady (P : Program) (ops : Array Oper) (S : World → Prop) (o : Oper) (v : Value) (a : Act) : Prop :=
  (Region.wanted o (yielded ops a.tmps) = true ∧ ∀ w, S w → o.quietAt P a (fun x => RowKit.Below w.heap.size w x) w v) ∨ (Region.wanted o (yielded ops a.tmps) = false ∧ v = undef)
theorem Steady.of_same {o : Oper} {v : Value} {a a' : Act} (hy : Steady P ops S o v a) (he : execOp a'.eval o = execOp a.eval o)
    (hw : Region.wanted o (yielded ops a'.tmps) = Region.wanted o (yielded ops a.tmps)) : Steady P ops S o v a' := by
  unfold Steady Oper.quietAt at *
  rw [he, hw]
  exact hy
theorem Steady.wpOp (hS : ∀ w w', S w → RowKit.Below w.heap.size w w' → S w') {i : Nat} {o : Oper} {v : Value} {a : Act} (hi : ops[i]? = some o) (hy : Steady P ops S o v a) {K : Act → World → Prop} {w : World} (hw : S w)
    (h : ∀ w', RowKit.Below w.heap.size w w' → K (a.put o.dst v) w') : wpOp P ops Q i K a w := by
  unfold Go.wpOp
  simp only [hi]
  rcases hy with ⟨hwt, hv⟩ | ⟨hwt, rfl⟩
  · rw [if_pos hwt]
    refine .inl (Oper.wp_of_quiet (C := fun x => x = w ∨ RowKit.Below w.heap.size w x) (K := fun a' => a' = a.put o.dst v) (.inl rfl) (fun a' w' hw' ha => ?_) ⟨v, fun w1 h1 => ?_, rfl⟩)
    · rw [ha]
      rcases hw' with rfl | hw'
      · exact h _ (RowKit.Below.refl _ _)
      · exact h _ hw'
    · have hb1 : RowKit.Below w.heap.size w w1 := by
        rcases h1 with rfl | h1
        · exact RowKit.Below.refl _ _
        · exact h1
      have hq := hv w1 (hS _ _ hw hb1)
      unfold Oper.quietAt at hq ⊢
      generalize (execOp a.eval o).run P w1 = r at *
      cases r with
      | ok n w' =>
        cases n <;> simp only [Oper.quietUpon] at hq ⊢
        case value u => exact hq
        case skip => exact hq
        case enter f args => exact ⟨hq.1, hq.2.mono fun e w'' ⟨he, hw''⟩ => ⟨he, .inr (below_tr hb1 hw'')⟩⟩
      | halt x w' => simp only [Oper.quietUpon] at hq
  · rw [if_neg (by rw [hwt]; simp)]
    exact h _ (RowKit.Below.refl _ _)
theorem wpOp_putS {j : Nat} {oi oj : Oper} {v : Value} (hj : ops[j]? = some oj) (hap : oi.apart ops oj = true)
    (hsi : ∀ cs b, oi.op ≠ .select cs b) (hsj : ∀ cs b, oj.op ≠ .select cs b)
    (hQ : ∀ c a w, Q (.panic c) (a.put oi.dst v) w → Q (.panic c) a w) {K : Act → World → Prop} {a : Act} {w : World}
    (hy : Steady P ops S oi v a) (h : wpOp P ops Q j K (a.put oi.dst v) w) :
    wpOp P ops Q j (fun a' w' => Steady P ops S oi v a' ∧ K (a'.put oi.dst v) w') a w := by
  obtain ⟨h1, h2, h3⟩ := Oper.apart_spec hap
  have keep : ∀ (a : Act), Steady P ops S oi v a → ∀ u, Steady P ops S oi v (a.put oj.dst u) := fun a hy u =>
    hy.of_same (execOp_put oi hsi a oj.dst u h3) (wanted_put oi a oj.dst u h3)
  have keepD : ∀ d, Steady P ops S oi v { a with defers := d :: a.defers } := fun d => hy.of_same rfl rfl
  have comm : ∀ (d : Deferred) u, ({ a.put oi.dst v with defers := d :: (a.put oi.dst v).defers } : Act).put oj.dst u = (({ a with defers := d :: a.defers } : Act).put oj.dst u).put oi.dst v := fun d u => by
    rw [← Act.put_comm _ v u h2]
    cases oi.dst <;> rfl
  unfold wpOp at *
  simp only [hj] at *
  rw [wanted_put oj a oi.dst v h1] at h
  split
  · rename_i hw
    simp only [hw, if_true] at h
    rcases h with h | ⟨hasks, hlets⟩
    case inr => exact .inr ⟨by unfold Oper.asks at *; rw [execOp_put oj hsj a oi.dst v h1] at hasks; exact hasks, hlets⟩
    refine .inl ?_
    unfold Oper.wp at *
    rw [execOp_put oj hsj a oi.dst v h1] at h
    generalize (execOp a.eval oj).run P w = r at *
    cases r with
    | ok n w' =>
      cases n <;> simp only [Oper.upon] at h ⊢
      case value u => exact ⟨keep a hy u, by rw [← Act.put_comm a v u h2]; exact h⟩
      case skip => exact ⟨keep a hy _, by rw [← Act.put_comm a v undef h2]; exact h⟩
      case defer d => exact ⟨keep _ (keepD d) _, by rw [← comm]; exact h⟩
      case enter f args =>
        refine h.mono fun e w'' he => ?_
        cases e with
        | returned u => exact ⟨keep a hy u, by rw [← Act.put_comm a v u h2]; exact he⟩
        | panicked c => exact hQ _ _ _ he
        | outgrown => exact he
      case row row args => exact h.mono fun u w'' he => ⟨keep a hy u, by rw [← Act.put_comm a v u h2]; exact he⟩
    | halt x w' => cases x <;> first | exact hQ _ _ _ h | exact h
  · rename_i hw
    simp only [hw] at h
    exact ⟨keep a hy _, by rw [← Act.put_comm a v undef h2]; exact h⟩

theorem wpAnyU_first (hS : ∀ w w', S w → RowKit.Below w.heap.size w w' → S w') {i : Nat} {oi : Oper} {v : Value} (hi : ops[i]? = some oi) (hsel : ∀ (j : Nat) (o : Oper) cs b, ops[j]? = some o → o.op ≠ .select cs b)
    (hQ : ∀ c a w, Q (.panic c) (a.put oi.dst v) w → Q (.panic c) a w) :
    ∀ (f : Nat) (listed : Array Bool) (a : Act) (w : World),
      (∀ j oj, ops[j]? = some oj → j ≠ i → listed.getD j true = false → (∀ e ∈ oj.after, Region.binds md e = true → e.on ≠ i) → oi.apart ops oj = true) →
      i ∈ Region.ready md ops listed → Steady P ops S oi v a → S w →
      wpAnyU P md ops Q S f (listed.setIfInBounds i true) (a.put oi.dst v) w → wpAnyU P md ops Q S (f + 1) listed a w := by
  intro f
  induction f with
  | zero =>
    intro listed a w _ hr hy hw H
    refine ⟨fun h => (by rw [h] at hr; cases hr), fun j hj w' hb => ?_⟩
    by_cases hji : j = i
    · subst hji
      exact hy.wpOp hS hi (hS _ _ hw hb) fun w'' h2 => ⟨hS _ _ (hS _ _ hw hb) h2, wpAnyU_up H (below_tr hb h2)⟩
    · have := ready_mono hj hji
      rw [H.1] at this
      cases this
  | succ f ih =>
    intro listed a w hfree hr hy hw H
    refine ⟨fun h => (by rw [h] at hr; cases hr), fun j hj w' hb => ?_⟩
    by_cases hji : j = i
    · subst hji
      exact hy.wpOp hS hi (hS _ _ hw hb) fun w'' h2 => ⟨hS _ _ (hS _ _ hw hb) h2, wpAnyU_up H (below_tr hb h2)⟩
    · have h1 := H.2 j (ready_mono hj hji) w' hb
      obtain ⟨hjun, oj, hoj, hall⟩ := mem_ready.1 hj
      have hnot : ∀ e ∈ oj.after, Region.binds md e = true → e.on ≠ i := fun e he hb heq => by
        have h1 := hall e he hb
        have h0 := (mem_ready.1 hr).1
        rw [heq] at h1
        rcases Nat.lt_or_ge i listed.size with h' | h'
        · simp [h'] at h0 h1; rw [h0] at h1; cases h1
        · simp [Array.getElem?_eq_none h'] at h1
      have h2 := wpOp_putS hoj (hfree j oj hoj hji hjun hnot) (fun cs b => hsel i oi cs b hi) (fun cs b => hsel j oj cs b hoj) hQ hy h1
      have hfree' : ∀ k ok, ops[k]? = some ok → k ≠ i → (listed.setIfInBounds j true).getD k true = false →
          (∀ e ∈ ok.after, Region.binds md e = true → e.on ≠ i) → oi.apart ops ok = true := fun k ok hk hki hun hno => by
        refine hfree k ok hk hki ?_ hno
        by_cases hjk : j = k
        · subst hjk; exact hjun
        · rw [getD_set_ne true hjk] at hun; exact hun
      refine wpOp_mono (fun a' w'' h3 => ⟨h3.2.1, ih (listed.setIfInBounds j true) a' w'' hfree' (ready_mono hr (Ne.symm hji)) h3.1 h3.2.1 ?_⟩) h2
      rw [Array.setIfInBounds_comm _ _ hji]
      exact h3.2.2

/-- Take number i first. -/
theorem wpAnyU_take (hS : ∀ w w', S w → RowKit.Below w.heap.size w w' → S w') {i : Nat} {oi : Oper} {v : Value} {f : Nat} {listed : Array Bool} {a : Act} {w : World} (hi : ops[i]? = some oi)
    (hs : Region.noSelect ops = true) (hf : Region.free md ops listed i = true) (hr : (Region.ready md ops listed).contains i = true)
    (hQ : ∀ c a d v w, Q (.panic c) (Act.put a d v) w → Q (.panic c) a w) (hw : S w) (hy : Steady P ops S oi v a)
    (h : wpAnyU P md ops Q S f (listed.setIfInBounds i true) (a.put oi.dst v) w) : wpAnyU P md ops Q S (f + 1) listed a w :=
  wpAnyU_first hS hi (Region.noSelect_spec hs) (fun c a w => hQ c a oi.dst v w) f listed a w (Region.free_spec hi hf) (by simpa using hr) hy hw h
/-- One operation, as a list of one. -/
theorem wpOp_of_list {i : Nat} {oi : Oper} {K : Act → World → Prop} {a : Act} {w' : World} (hi : ops[i]? = some oi)
    (h1 : wpList P ops (fun x a' w'' => match x with | .normal => K a' w'' | x => Q x a' w'') [oi] a w') : wpOp P ops Q i K a w' := by
  unfold wpOp
  unfold wpList at h1
  simp only [hi]
  split
  · rename_i hw
    rw [if_pos hw] at h1
    rcases h1 with h1 | ⟨h1, h2⟩
    · refine .inl ?_
      unfold Oper.wp at h1 ⊢
      generalize (execOp a.eval oi).run P w' = r at *
      cases r with
      | ok n w2 =>
        cases n <;> simp only [Oper.upon] at h1 ⊢ <;> first
          | exact h1
          | (refine h1.mono fun e w'' he => ?_
             cases e <;> exact he)
          | skip
      | halt x w2 => cases x <;> first | exact h1 | exact absurd h1 id
    · exact .inr ⟨h1, h2⟩
  · rename_i hw
    rw [if_neg hw] at h1
    exact h1
/-- Number i alone is ready: it is run in every world behind. -/
theorem wpAnyU_run {i : Nat} {oi : Oper} {f : Nat} {listed : Array Bool} {a : Act} {w : World} (hi : ops[i]? = some oi) (hr : Region.ready md ops listed = [i])
    (h : ∀ w', RowKit.Below w.heap.size w w' → wpList P ops (fun x a' w'' => match x with | .normal => S w'' ∧ wpAnyU P md ops Q S f (listed.setIfInBounds i true) a' w'' | x => Q x a' w'') [oi] a w') : wpAnyU P md ops Q S (f + 1) listed a w := by
  refine ⟨by rw [hr]; simp, fun j hj w' hb => ?_⟩
  rw [hr] at hj
  have hji : j = i := by simpa using hj
  subst hji
  exact wpOp_of_list hi (h w' hb)
/-- Two are ready: each is run. -/
theorem wpAnyU_two {i k : Nat} {oi ok : Oper} {f : Nat} {listed : Array Bool} {a : Act} {w : World} (hi : ops[i]? = some oi) (hk : ops[k]? = some ok) (hr : Region.ready md ops listed = [i, k])
    (h : ∀ w', RowKit.Below w.heap.size w w' → wpList P ops (fun x a' w'' => match x with | .normal => S w'' ∧ wpAnyU P md ops Q S f (listed.setIfInBounds i true) a' w'' | x => Q x a' w'') [oi] a w')
    (h' : ∀ w', RowKit.Below w.heap.size w w' → wpList P ops (fun x a' w'' => match x with | .normal => S w'' ∧ wpAnyU P md ops Q S f (listed.setIfInBounds k true) a' w'' | x => Q x a' w'') [ok] a w') : wpAnyU P md ops Q S (f + 1) listed a w := by
  refine ⟨by rw [hr]; simp, fun j hj w' hb => ?_⟩
  rw [hr] at hj
  have hji : j = i ∨ j = k := by simpa using hj
  rcases hji with rfl | rfl
  · exact wpOp_of_list hi (h w' hb)
  · exact wpOp_of_list hk (h' w' hb)
theorem wpAnyU_weaken {S' : World → Prop} (hSS : ∀ w, S' w → S w) : ∀ {f : Nat} {listed : Array Bool} {a : Act} {w : World}, wpAnyU P md ops Q S' f listed a w → wpAnyU P md ops Q S f listed a w
  | 0, _, _, _, h => h
  | _ + 1, _, _, _, h => ⟨h.1, fun i hi w' hb => wpOp_mono (fun _ _ h' => ⟨hSS _ h'.1, wpAnyU_weaken hSS h'.2⟩) (h.2 i hi w' hb)⟩
theorem wpList_unguard {o : Oper} {rest : List Oper} {a : Act} {w : World} (hw : Region.wanted o (yielded ops a.tmps) = true) (h : wpList P ops Q ({ o with guard := none } :: rest) a w) : wpList P ops Q (o :: rest) a w := by
  unfold wpList at h ⊢
  rw [if_pos hw]
  rw [if_pos (by rfl)] at h
  exact h
theorem wpAnyU_end {listed : Array Bool} {a : Act} {w : World} (hr : Region.ready md ops listed = []) (h : ∀ w', RowKit.Below w.heap.size w w' → Q .normal a w') : wpAnyU P md ops Q S 0 listed a w := ⟨hr, h⟩
theorem wp_regionU {id : Nat} {a : Act} {w : World} {l : List Oper} (hm : P.follows .mixedOrders = true) (h : wpAnyU P .any l.toArray Q S l.toArray.size (Array.replicate l.toArray.size false) a w.drew) : (Code.region id l.toArray true).wp P Q a w :=
  wp_region_any hm (wpAny_of_U _ _ _ _ h)
/-- What yields one value in every world is steady. -/
theorem Steady.of_yields {o : Oper} {v : Value} {a : Act} (h : Yields P ops o v a) : Steady P ops S o v a := by
  rcases h with ⟨h1, h2⟩ | h
  · refine .inl ⟨h1, fun w _ => ?_⟩
    unfold Oper.quietAt
    rw [h2 w]
    exact ⟨rfl, rfl⟩
  · exact .inr h
theorem Steady.load_seg {o : Oper} {a : Act} (hgd : Region.wanted o (yielded ops a.tmps) = true) (ty : TypeId) (x : Operand) (ho : o.op = .load ty x) (g off n : Nat) (hx : a.eval x = .pointer (some ⟨g, off, none⟩)) (t : TypeId) (k : IntKind) (xs ys : List Int) (d : TypeDesc)
    (h : ∀ w, S w → Has w g t (vals k xs)) (hu : P.underlying ty = some d) (hd : (match d with | .struct _ | .array _ _ => true | _ => false) = true)
    (hi : (P.info? ty).map (·.size) = some n) (hy : ys = (xs.drop off).take n) (hoff : off + n ≤ xs.length) : Steady P ops S o (.agg (vals k ys)) a := by
  refine .inl ⟨hgd, fun w hw => ?_⟩
  unfold Oper.quietAt execOp
  simp only [ho, hx, Instr.loadAt, Instr.sureAddr, Sem.run_bind, Sem.run_pure, Result.andThen_ok, run_load_seg (h w hw) hu hd hi hy hoff]
  exact ⟨rfl, rfl⟩
theorem Steady.build {o : Oper} {a : Act} (hgd : Region.wanted o (yielded ops a.tmps) = true) (t : TypeId) (parts : Array (Nat × Operand)) (ho : o.op = .build t parts) (cells : Array Value)
    (hf : P.built t (parts.map fun (i, x) => (i, a.eval x)).toList = some cells) : Steady P ops S o (.agg cells) a := by
  refine .inl ⟨hgd, fun w _ => ?_⟩
  unfold Oper.quietAt execOp
  have h : (Instr.build t (parts.map fun (i, x) => (i, a.eval x))).run P w = .ok (.agg cells) w := run_build w t _ cells hf
  simp only [ho, Sem.run_bind, h, Result.andThen_ok]
  exact ⟨rfl, rfl⟩
end
end Go.Proofs.Ythaoebamnlmfpaa.Reg
