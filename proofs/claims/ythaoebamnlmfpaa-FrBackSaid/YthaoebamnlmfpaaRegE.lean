/-
  Own text. A region that draws its order and writes once: operations that read (one value in every world ahead of the one that writes), the one that writes, and moves, which may come behind it.
-/
import Derived.Test.YthaoebamnlmfpaaRegB
namespace Go.Proofs.Ythaoebamnlmfpaa.Reg
open Go
section
variable {P : Program} {ops : Array Oper} {md : Region.Mode} {C : World → Prop} {Q : Exit → Act → World → Prop}
/-- Whatever order is picked; number k writes; ahead of it the worlds of C. -/
def anyK (P : Program) (md : Region.Mode) (ops : Array Oper) (C : World → Prop) (Q : Exit → Act → World → Prop) (k : Nat) : Nat → Array Bool → Act → Prop
  | 0, _, _ => False
  | f + 1, listed, a => Region.ready md ops listed ≠ [] ∧ ∀ i ∈ Region.ready md ops listed,
      (i = k ∧ ∀ w, C w → wpOp P ops Q k (wpAny P md ops Q f (listed.setIfInBounds k true)) a w) ∨ (i ≠ k ∧ qOp P ops C i (anyK P md ops C Q k f (listed.setIfInBounds i true)) a)
theorem wpAny_of_K {k : Nat} : ∀ (f : Nat) (listed : Array Bool) (a : Act) (w : World), C w → anyK P md ops C Q k f listed a → wpAny P md ops Q f listed a w
  | 0, _, _, _, _, h => h.elim
  | f + 1, listed, a, w, hC, h => ⟨fun h0 => absurd h0 h.1, fun i hi => by
      rcases h.2 i hi with ⟨rfl, h2⟩ | ⟨_, h2⟩
      · exact h2 w hC
      · exact wpOp_of_qOp (C := C) hC (fun a' w' hC' h' => wpAny_of_K f _ a' w' hC' h') h2⟩
/-- What waits for number i, itself or by others. -/
def waitersOf (md : Region.Mode) (ops : Array Oper) (i : Nat) : List Nat :=
  (List.range ops.size).foldl (fun D j => if ((ops[j]?).map (fun o => o.after.any fun e => Region.binds md e && (e.on == i || D.contains e.on))).getD false then j :: D else D) []
/-- Number i holds up number k, as long as it isn't listed. -/
def holdsUp (md : Region.Mode) (ops : Array Oper) (listed : Array Bool) (i k : Nat) : Bool :=
  (waitersOf md ops i).contains k && !(waitersOf md ops i).contains i && (waitersOf md ops i).all fun j => !listed.getD j true && ((ops[j]?).map (fun o => o.after.any fun e => Region.binds md e && (e.on == i || (waitersOf md ops i).contains e.on))).getD false
structure Held (md : Region.Mode) (ops : Array Oper) (i k : Nat) (D : List Nat) (listed : Array Bool) : Prop where
  mem : k ∈ D
  self : i ∉ D
  un : ∀ j ∈ D, listed.getD j true = false
  waits : ∀ j ∈ D, ∃ o, ops[j]? = some o ∧ ∃ e ∈ o.after, Region.binds md e = true ∧ (e.on = i ∨ e.on ∈ D)
theorem holdsUp_spec {listed : Array Bool} {i k : Nat} (h : holdsUp md ops listed i k = true) : Held md ops i k (waitersOf md ops i) listed := by
  unfold holdsUp at h
  generalize waitersOf md ops i = D at *
  simp only [Bool.and_eq_true, List.all_eq_true, List.contains_iff_mem, Bool.not_eq_true'] at h
  obtain ⟨⟨h1, h0⟩, h2⟩ := h
  refine ⟨h1, by simpa using h0, fun j hj => (h2 j hj).1, fun j hj => ?_⟩
  have h3 := (h2 j hj).2
  cases ho : ops[j]? with
  | none => rw [ho] at h3; simp at h3
  | some o =>
    rw [ho] at h3
    simp only [Option.map_some, Option.getD_some] at h3
    obtain ⟨e, he, hb⟩ := Array.any_eq_true'.1 h3
    simp only [Bool.and_eq_true, Bool.or_eq_true, beq_iff_eq, List.contains_iff_mem] at hb
    exact ⟨o, rfl, e, he, hb.1, hb.2⟩
theorem Held.not_ready {listed : Array Bool} {i k : Nat} {D : List Nat} (h : Held md ops i k D listed) (hun : listed.getD i true = false) {j : Nat} (hj : j ∈ D) : j ∉ Region.ready md ops listed := by
  intro hr
  obtain ⟨_, o, ho, hall⟩ := mem_ready.1 hr
  obtain ⟨o', ho', e, he, hb, hon⟩ := h.waits j hj
  obtain rfl : o' = o := Option.some.inj (ho'.symm.trans ho)
  have h2 := hall e he hb
  rcases hon with hon | hon
  · rw [hon, getD_both hun] at h2; cases h2
  · rw [getD_both (h.un _ hon)] at h2; cases h2
theorem Held.set {listed : Array Bool} {i k : Nat} {D : List Nat} (h : Held md ops i k D listed) {j : Nat} (hj : j ∉ D) : Held md ops i k D (listed.setIfInBounds j true) :=
  ⟨h.mem, h.self, fun t ht => by
    have hne : j ≠ t := fun e => hj (by rw [e]; exact ht)
    rw [getD_set_ne true hne]; exact h.un t ht, h.waits⟩

theorem anyK_held {k i : Nat} {oi : Oper} {v : Value} (hi : ops[i]? = some oi) (hsel : ∀ (j : Nat) (o : Oper) cs b, ops[j]? = some o → o.op ≠ .select cs b) (D : List Nat) :
    ∀ (f : Nat) (listed : Array Bool) (a : Act), Held md ops i k D listed →
      (∀ j oj, ops[j]? = some oj → j ≠ i → listed.getD j true = false → (∀ e ∈ oj.after, Region.binds md e = true → e.on ≠ i) → oi.apart ops oj = true) →
      i ∈ Region.ready md ops listed → YieldsIn P ops C oi v a →
      anyK P md ops C Q k f (listed.setIfInBounds i true) (a.put oi.dst v) → anyK P md ops C Q k (f + 1) listed a := by
  intro f
  induction f with
  | zero => intro listed a _ _ _ _ H; exact H.elim
  | succ f ih =>
    intro listed a inv hfree hr hy H
    have hun := (mem_ready.1 hr).1
    refine ⟨fun h => (by rw [h] at hr; cases hr), fun j hj => .inr ?_⟩
    have hjD : j ∉ D := fun h => inv.not_ready hun h hj
    refine ⟨fun h => hjD (h ▸ inv.mem), ?_⟩
    by_cases hji : j = i
    · subst hji; exact YieldsIn.qOp hi hy H
    · rcases H.2 j (ready_mono hj hji) with ⟨h1, _⟩ | ⟨_, h1⟩
      · exact absurd (h1 ▸ inv.mem) hjD
      obtain ⟨hjun, oj, hoj, hall⟩ := mem_ready.1 hj
      have hnot : ∀ e ∈ oj.after, Region.binds md e = true → e.on ≠ i := fun e he hb heq => by
        have h1 := hall e he hb
        rw [heq, getD_both hun] at h1
        cases h1
      have h2 := qOp_put hoj (hfree j oj hoj hji hjun hnot) (fun cs b => hsel i oi cs b hi) (fun cs b => hsel j oj cs b hoj) hy h1
      have hfree' : ∀ k ok, ops[k]? = some ok → k ≠ i → (listed.setIfInBounds j true).getD k true = false →
          (∀ e ∈ ok.after, Region.binds md e = true → e.on ≠ i) → oi.apart ops ok = true := fun k ok hk hki hun hno => by
        refine hfree k ok hk hki ?_ hno
        by_cases hjk : j = k
        · subst hjk; exact hjun
        · rw [getD_set_ne true hjk] at hun; exact hun
      refine qOp_mono (fun a' h3 => ih (listed.setIfInBounds j true) a' (inv.set hjD) hfree' (ready_mono hr (Ne.symm hji)) h3.1 ?_) h2
      rw [Array.setIfInBounds_comm _ _ hji]
      exact h3.2
theorem anyK_pure {k i : Nat} {oi : Oper} {v : Value} (hi : ops[i]? = some oi) (hik : i ≠ k) (hsel : ∀ (j : Nat) (o : Oper) cs b, ops[j]? = some o → o.op ≠ .select cs b)
    (hQ : ∀ c a w, Q (.panic c) (a.put oi.dst v) w → Q (.panic c) a w) :
    ∀ (f : Nat) (listed : Array Bool) (a : Act),
      (∀ j oj, ops[j]? = some oj → j ≠ i → listed.getD j true = false → (∀ e ∈ oj.after, Region.binds md e = true → e.on ≠ i) → oi.apart ops oj = true) →
      i ∈ Region.ready md ops listed → YieldsIn P ops C oi v a → Yields P ops oi v a →
      anyK P md ops C Q k f (listed.setIfInBounds i true) (a.put oi.dst v) → anyK P md ops C Q k (f + 1) listed a := by
  intro f
  induction f with
  | zero => intro listed a _ _ _ _ H; exact H.elim
  | succ f ih =>
    intro listed a hfree hr hy hyy H
    have hun := (mem_ready.1 hr).1
    refine ⟨fun h => (by rw [h] at hr; cases hr), fun j hj => ?_⟩
    by_cases hji : j = i
    · subst hji; exact .inr ⟨hik, YieldsIn.qOp hi hy H⟩
    · obtain ⟨hjun, oj, hoj, hall⟩ := mem_ready.1 hj
      have hnot : ∀ e ∈ oj.after, Region.binds md e = true → e.on ≠ i := fun e he hb heq => by
        have h1 := hall e he hb
        rw [heq, getD_both hun] at h1
        cases h1
      have hfree' : ∀ k ok, ops[k]? = some ok → k ≠ i → (listed.setIfInBounds j true).getD k true = false →
          (∀ e ∈ ok.after, Region.binds md e = true → e.on ≠ i) → oi.apart ops ok = true := fun k ok hk hki hun hno => by
        refine hfree k ok hk hki ?_ hno
        by_cases hjk : j = k
        · subst hjk; exact hjun
        · rw [getD_set_ne true hjk] at hun; exact hun
      rcases H.2 j (ready_mono hj hji) with ⟨h1, h2⟩ | ⟨h1, h2⟩
      · refine .inl ⟨h1, fun w hw => ?_⟩
        subst h1
        have h3 := wpOp_put hoj (hfree j oj hoj hji hjun hnot) (fun cs b => hsel i oi cs b hi) (fun cs b => hsel j oj cs b hoj) hQ hyy (h2 w hw)
        refine wpOp_mono (fun a' w' h4 => wpAny_first hi hsel hQ f _ a' w' hfree' (ready_mono hr (Ne.symm hji)) h4.1 ?_) h3
        rw [Array.setIfInBounds_comm _ _ hji]
        exact h4.2
      · refine .inr ⟨h1, ?_⟩
        have h3 := qOp_put (C := C) hoj (hfree j oj hoj hji hjun hnot) (fun cs b => hsel i oi cs b hi) (fun cs b => hsel j oj cs b hoj) hy h2
        obtain ⟨_, _, h33⟩ := Oper.apart_spec (hfree j oj hoj hji hjun hnot)
        obtain ⟨u, hu, h4⟩ := yieldsIn_of_qOp hoj h3
        refine hu.qOp hoj (ih (listed.setIfInBounds j true) _ hfree' (ready_mono hr (Ne.symm hji)) h4.1 (hyy.of_same (execOp_put oi (fun cs b => hsel i oi cs b hi) a oj.dst u h33) (wanted_put oi a oj.dst u h33)) ?_)
        rw [Array.setIfInBounds_comm _ _ hji]
        exact h4.2
/-- A move, or a part of a row of results. -/
def moves (o : Oper) : Bool := o.guard.isNone && match o.op with | .assign _ | .move _ | .extract _ _ => true | _ => false
theorem Yields.of_moves {o : Oper} {v : Value} {a : Act} (h : moves o = true) (hne : ∃ w, C w) (hy : YieldsIn P ops C o v a) : Yields P ops o v a := by
  unfold moves at h
  simp only [Bool.and_eq_true, Option.isNone_iff_eq_none] at h
  rcases hy with ⟨hw, hv⟩ | hy
  · refine .inl ⟨hw, fun w => ?_⟩
    obtain ⟨w0, hw0⟩ := hne
    have h1 := hv w0 hw0
    have h2 := h.2
    unfold Oper.quietAt at h1
    cases hop : o.op <;> simp only [hop] at h2 <;> first
      | (exact absurd h2 (by decide))
      | (simp only [execOp, hop, Sem.run_pure, Oper.quietUpon] at h1 ⊢
         rw [h1.2]
         done)
      | (rename_i x ix
         simp only [execOp, hop, Sem.run_bind] at h1 ⊢
         have h3 : ∀ (y : Value) (w1 : World), (∃ u, (Instr.extract y ix).run P w1 = .ok u w1 ∧ ∀ w2, (Instr.extract y ix).run P w2 = .ok u w2) ∨ ∃ x2, (Instr.extract y ix).run P w1 = .halt x2 w1 := by
           intro y w1
           unfold Instr.extract
           cases y with
           | tuple vs =>
             cases hv : vs[ix]? with
             | some u => exact .inl ⟨u, by simp only [hv]; rfl, fun _ => by simp only [hv]; rfl⟩
             | none => exact .inr (by simp only [hv]; exact ⟨_, rfl⟩)
           | _ => exact .inr ⟨_, rfl⟩
         rcases h3 (a.eval x) w0 with ⟨u, hu, hall⟩ | ⟨x2, hu⟩
         · rw [hu] at h1
           rw [hall w]
           simp only [Result.andThen_ok, Sem.run_pure, Oper.quietUpon] at h1 ⊢
           rw [h1.2]
         · rw [hu] at h1
           exact absurd h1 (by simp [Result.andThen, Oper.quietUpon]))
  · exact .inr hy
/-- The operations ahead of number k, in the order of the text: each holds up k, or is a move. -/
def writeB (md : Region.Mode) (ops : Array Oper) (k g : Nat) : Nat → Nat → Array Bool → Bool
  | 0, i, listed => decide (i = k) && Region.seqB md ops (g + 1) k listed
  | f + 1, i, listed => decide (i ≠ k) && (Region.ready md ops listed).contains i && Region.free md ops listed i && (holdsUp md ops listed i k || ((ops[i]?).map moves).getD false) && writeB md ops k g f (i + 1) (listed.setIfInBounds i true)
theorem anyK_of_row {k : Nat} {l2 : List Oper} {o2 : Oper} (hne : ∃ w, C w) (hs : Region.noSelect ops = true) (hQ : ∀ c a d v w, Q (.panic c) (Act.put a d v) w → Q (.panic c) a w) (hl2 : ∀ j, (o2 :: l2)[j]? = ops[k + j]?) :
    ∀ (l : List Oper) (i : Nat) (listed : Array Bool) (a : Act), (∀ j, j < l.length → l[j]? = ops[i + j]?) → writeB md ops k l2.length l.length i listed = true →
      wpQuiet P ops C (fun a' => ∀ w', C w' → wpList P ops Q (o2 :: l2) a' w') l a → anyK P md ops C Q k (l.length + (l2.length + 1)) listed a
  | [], i, listed, a, _, hB, h => by
    simp only [List.length_nil, writeB, Region.seqB, Bool.and_eq_true, decide_eq_true_eq] at hB
    rw [List.length_nil, Nat.zero_add]
    refine ⟨fun h1 => (by rw [hB.2.1] at h1; cases h1), fun j hj => .inl ?_⟩
    rw [hB.2.1] at hj
    have hjk : j = k := by simpa using hj
    refine ⟨hjk, fun w hw => ?_⟩
    have h0 : ops[k]? = some o2 := by simpa using (hl2 0).symm
    have h1 : wpOp P ops Q k (wpList P ops Q l2) a w := by unfold wpOp; simp only [h0]; exact h w hw
    exact wpOp_mono (fun a' w' h' => wpAny_of_seq l2 (k + 1) _ a' w' (fun j => by have := hl2 (j + 1); simpa [Nat.add_assoc, Nat.add_comm 1 j] using this) hB.2.2 h') h1
  | o :: l, i, listed, a, hl, hB, h => by
    have ho : ops[i]? = some o := by simpa using (hl 0 (by simp)).symm
    simp only [List.length_cons, writeB, Bool.and_eq_true, Bool.or_eq_true, decide_eq_true_eq] at hB
    obtain ⟨⟨⟨⟨hik, hr⟩, hf⟩, hor⟩, hB'⟩ := hB
    have hr' : i ∈ Region.ready md ops listed := by simpa using hr
    have hst : qOp P ops C i (wpQuiet P ops C (fun a' => ∀ w', C w' → wpList P ops Q (o2 :: l2) a' w') l) a := by unfold qOp; simp only [ho]; exact h
    obtain ⟨v, hy, hK⟩ := yieldsIn_of_qOp ho hst
    have ih := anyK_of_row hne hs hQ hl2 l (i + 1) _ _ (fun j hj => by have := hl (j + 1) (by simp; omega); simpa [Nat.add_assoc, Nat.add_comm 1 j] using this) hB' hK
    rw [List.length_cons, show l.length + 1 + (l2.length + 1) = (l.length + (l2.length + 1)) + 1 by omega]
    rcases hor with hor | hor
    · exact anyK_held ho (Region.noSelect_spec hs) _ _ listed a (holdsUp_spec hor) (Region.free_spec ho hf) hr' hy ih
    · rw [ho] at hor
      exact anyK_pure ho hik (Region.noSelect_spec hs) (fun c a w => hQ c a o.dst v w) _ listed a (Region.free_spec ho hf) hr' hy (Yields.of_moves (by simpa using hor) hne hy) ih
end
/-- A drawn region that reads and makes new memory, then writes, by number k; moves ahead of k may come behind it; what stands behind k has one order. -/
theorem wp_write {P : Program} {id : Nat} {Q : Exit → Act → World → Prop} {a : Act} {w : World} {l : List Oper} (k : Nat) {o2 : Oper} {l2 : List Oper} (hd : l.drop k = o2 :: l2) (hm : P.follows .mixedOrders = true) (hs : Region.noSelect l.toArray = true)
    (hB : writeB .any l.toArray k l2.length k 0 (Array.replicate l.toArray.size false) = true)
    (hQ : ∀ c a d v w, Q (.panic c) (Act.put a d v) w → Q (.panic c) a w)
    (h : ∀ (I : Type) (_ : Nonempty I) (f : I → World), (∀ i, RowKit.Below w.heap.size w (f i)) → (∀ w', RowKit.Below w.heap.size w w' → ∃ i, w' = f i) →
      wpQuiet P l.toArray (fun w' => ∃ i, w' = f i) (fun a' => ∀ w', RowKit.Below w.heap.size w w' → wpList P l.toArray Q (o2 :: l2) a' w') (l.take k) a) : (Code.region id l.toArray true).wp P Q a w := by
  obtain ⟨I, hI, f, hf, hb⟩ := fam w
  refine wp_region_any hm ?_
  have hd1 : ∃ i, w.drew = f i := hb w.drew ⟨rfl, rfl, rfl, Nat.le_refl _, fun _ _ => rfl⟩
  have hlen : (l.take k).length + (l2.length + 1) = l.toArray.size := by
    have := congrArg List.length hd
    simp at this ⊢
    omega
  have hk : (l.take k).length = k := by
    have := congrArg List.length hd
    simp at this ⊢
    omega
  have := anyK_of_row (md := .any) (C := fun w' => ∃ i, w' = f i) (Q := Q) (k := k) (ops := l.toArray) ⟨_, hd1⟩ hs hQ (fun j => by rw [← hd]; simp [List.getElem?_drop]) (l.take k) 0 (Array.replicate l.toArray.size false) a
    (fun j hj => by rw [hk] at hj; simp [List.getElem?_take_of_lt hj]) (by rw [hk]; exact hB) (quiet_post (fun a' h' w' ⟨i, hi⟩ => by rw [hi]; exact h' (f i) (hf i)) _ _ (h I hI f hf hb))
  rw [hlen] at this
  exact wpAny_of_K _ _ _ _ hd1 this
end Go.Proofs.Ythaoebamnlmfpaa.Reg
