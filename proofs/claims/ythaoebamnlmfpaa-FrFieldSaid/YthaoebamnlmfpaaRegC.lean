/-
  Own text. A region that draws its order: operations that yield one value in every world first; then one operation of any kind, which alone may come up; then operations that only read or make new memory.
-/
import Derived.Test.YthaoebamnlmfpaaRegB
namespace Go.Proofs.Ythaoebamnlmfpaa.Reg
open Go
section
variable {P : Program} {ops : Array Oper} {md : Region.Mode}
def oneB (md : Region.Mode) (ops : Array Oper) (k g : Nat) : List Nat → Array Bool → Bool
  | [], listed => decide (Region.ready md ops listed = [k]) && Region.lexFrom md ops g (k + 1) (listed.setIfInBounds k true)
  | i :: is, listed => (Region.ready md ops listed).contains i && Region.free md ops listed i && oneB md ops k g is (listed.setIfInBounds i true)
/-- What is asked behind the one operation: the rest goes quietly. -/
def quietThen (P : Program) (ops : Array Oper) (Q : Exit → Act → World → Prop) (l : List Oper) : Exit → Act → World → Prop
  | .normal, a, w => ∀ (I : Type) (_ : Nonempty I) (f : I → World), (∀ i, RowKit.Below w.heap.size w (f i)) → (∀ w', RowKit.Below w.heap.size w w' → ∃ i, w' = f i) →
      wpQuiet P ops (fun w' => ∃ i, w' = f i) (fun a' => ∀ w', RowKit.Below w.heap.size w w' → Q .normal a' w') l a
  | x, a, w => Q x a w
theorem wpAny_of_rest {Q : Exit → Act → World → Prop} {l : List Oper} {k : Nat} {listed : Array Bool} {a : Act} {w : World} (hs : Region.noSelect ops = true) (hl : ∀ j, l[j]? = ops[k + j]?) (hB : Region.lexFrom md ops l.length k listed = true)
    (h : quietThen P ops Q l .normal a w) : wpAny P md ops Q l.length listed a w := by
  obtain ⟨I, hI, f, hf, hb⟩ := fam w
  have h1 := h I hI f hf hb
  refine wpAny_of_quiet (C := fun w' => ∃ i, w' = f i) (Q := fun a' => ∀ w', RowKit.Below w.heap.size w w' → Q .normal a' w') (fun a' w' ⟨i, hi⟩ h' => h' w' (by rw [hi]; exact hf i)) _ _ _ _ (hb _ (RowKit.Below.refl _ _)) (wpAnyQ_lex hs l k listed a hl hB h1)
theorem wpAny_of_one {Q : Exit → Act → World → Prop} {l : List Oper} {k : Nat} {w : World} (hs : Region.noSelect ops = true) (hQ : ∀ c a d v w, Q (.panic c) (Act.put a d v) w → Q (.panic c) a w) (hl : ∀ j, l[j]? = ops[k + 1 + j]?) :
    ∀ (is : List Nat) (listed : Array Bool) (a : Act), oneB md ops k l.length is listed = true →
      wpFront P ops (fun a' => ∃ o, ops[k]? = some o ∧ wpList P ops (quietThen P ops Q l) [o] a' w) (is.filterMap (ops[·]?)) a → wpAny P md ops Q (is.length + (l.length + 1)) listed a w
  | [], listed, a, hB, h => by
    simp only [oneB, Bool.and_eq_true, decide_eq_true_eq] at hB
    obtain ⟨o, ho, h⟩ := h
    simp only [List.length_nil, Nat.zero_add]
    refine ⟨fun h1 => (by rw [hB.1] at h1; cases h1), fun i hi => ?_⟩
    rw [hB.1] at hi
    have hik : i = k := by simpa using hi
    subst hik
    unfold wpOp
    simp only [ho]
    unfold wpList at h
    have step : ∀ a' w', wpList P ops (quietThen P ops Q l) [] a' w' → wpAny P md ops Q l.length (listed.setIfInBounds i true) a' w' := fun a' w' h' => wpAny_of_rest hs hl hB.2 h'
    split
    · rename_i hw
      rw [if_pos hw] at h
      rcases h with h | ⟨h1, h2⟩
      · refine .inl ?_
        unfold Oper.wp at h ⊢
        generalize (execOp a.eval o).run P w = r at *
        cases r with
        | ok n w' =>
          cases n <;> simp only [Oper.upon] at h ⊢ <;> first
            | exact step _ _ h
            | (refine h.mono fun e w'' he => ?_
               cases e <;> first
                 | exact step _ _ he
                 | exact he)
            | exact h
            | skip
        | halt x w' => cases x <;> first | exact h | exact absurd h id
      · exact .inr ⟨h1, h2⟩
    · rename_i hw
      rw [if_neg hw] at h
      exact step _ _ h
  | i :: is, listed, a, hB, h => by
    simp only [oneB, Bool.and_eq_true] at hB
    have hk : i ∈ Region.ready md ops listed := by simpa using hB.1.1
    obtain ⟨_, o, ho, _⟩ := mem_ready.1 hk
    rw [List.filterMap_cons_some ho] at h
    obtain ⟨v, hy, h⟩ := h
    rw [List.length_cons, show is.length + 1 + (l.length + 1) = (is.length + (l.length + 1)) + 1 by omega]
    exact wpAny_take ho hs hB.1.2 hB.1.1 (fun c a w => hQ c a o.dst v w) hy (wpAny_of_one hs hQ hl is _ _ hB.2 h)
end
/-- Operations that yield one value in every world; one operation; the rest quietly. -/
theorem wp_one {P : Program} {id : Nat} {Q : Exit → Act → World → Prop} {a : Act} {w : World} {l : List Oper} (front : List Nat) (k : Nat) (hm : P.follows .mixedOrders = true)
    (hlen : front.length + ((l.drop (k + 1)).length + 1) = l.toArray.size) (hs : Region.noSelect l.toArray = true) (hB : oneB .any l.toArray k (l.drop (k + 1)).length front (Array.replicate l.toArray.size false) = true)
    (hQ : ∀ c a d v w, Q (.panic c) (Act.put a d v) w → Q (.panic c) a w)
    (h : wpFront P l.toArray (fun a' => ∃ o, l[k]? = some o ∧ wpList P l.toArray (quietThen P l.toArray Q (l.drop (k + 1))) [o] a' w.drew) (front.filterMap (l[·]?)) a) : (Code.region id l.toArray true).wp P Q a w := by
  refine wp_region_any hm ?_
  have := wpAny_of_one (md := .any) (Q := Q) (w := w.drew) (l := l.drop (k + 1)) (k := k) hs hQ (fun j => by simp [List.getElem?_drop]) front _ a hB (by simpa using h)
  rwa [hlen] at this
end Go.Proofs.Ythaoebamnlmfpaa.Reg
