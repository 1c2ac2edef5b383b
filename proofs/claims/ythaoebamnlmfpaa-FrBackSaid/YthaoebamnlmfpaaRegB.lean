/-
  Own text. A region that draws its order: operations that yield one value in every world (moves, slices of an array, numbers) are taken first; the rest, whose order is forced, runs behind them as a list.
-/
import Derived.Test.YthaoebamnlmfpaaReg
import Derived.Orders
namespace Go.Proofs.Ythaoebamnlmfpaa.Reg
open Go
section
variable {P : Program} {ops : Array Oper} {md : Region.Mode}
/-- The rest's order is forced. -/
def listB (md : Region.Mode) (ops : Array Oper) : List Nat → Array Bool → Bool
  | [], listed => (Region.ready md ops listed).isEmpty
  | k :: ks, listed => decide (Region.ready md ops listed = [k]) && listB md ops ks (listed.setIfInBounds k true)
theorem wpAny_of_list {Q' : Exit → Act → World → Prop} : ∀ (ks : List Nat) (listed : Array Bool) (a : Act) (w : World),
    listB md ops ks listed = true → wpList P ops Q' (ks.filterMap (ops[·]?)) a w → wpAny P md ops Q' ks.length listed a w
  | [], _, _, _, hB, h => ⟨by simpa [listB] using hB, h⟩
  | k :: ks, listed, a, w, hB, h => by
    simp only [listB, Bool.and_eq_true, decide_eq_true_eq] at hB
    have hk : k ∈ Region.ready md ops listed := by rw [hB.1]; simp
    obtain ⟨_, o, ho, _⟩ := mem_ready.1 hk
    rw [List.filterMap_cons_some ho] at h
    refine ⟨fun h1 => (by rw [h1] at hk; cases hk), fun i hi => ?_⟩
    rw [hB.1] at hi
    have hik : i = k := by simpa using hi
    subst hik
    have hw : wpOp P ops Q' i (wpList P ops Q' (ks.filterMap (ops[·]?))) a w := by unfold wpOp; simp only [ho]; exact h
    exact wpOp_mono (fun a' w' h' => wpAny_of_list ks _ a' w' hB.2 h') hw
def frontB (md : Region.Mode) (ops : Array Oper) (rest : List Nat) : List Nat → Array Bool → Bool
  | [], listed => listB md ops rest listed
  | i :: is, listed => (Region.ready md ops listed).contains i && Region.free md ops listed i && frontB md ops rest is (listed.setIfInBounds i true)
def wpFront (P : Program) (ops : Array Oper) (K : Act → Prop) : List Oper → Act → Prop
  | [], a => K a
  | o :: os, a => ∃ v, Yields P ops o v a ∧ wpFront P ops K os (a.put o.dst v)
theorem wpAny_of_front {Q' : Exit → Act → World → Prop} {rest : List Nat} {w : World} (hs : Region.noSelect ops = true) (hQ : ∀ c a d v w, Q' (.panic c) (Act.put a d v) w → Q' (.panic c) a w) :
    ∀ (is : List Nat) (listed : Array Bool) (a : Act), frontB md ops rest is listed = true →
      wpFront P ops (fun a' => wpList P ops Q' (rest.filterMap (ops[·]?)) a' w) (is.filterMap (ops[·]?)) a → wpAny P md ops Q' (is.length + rest.length) listed a w
  | [], listed, a, hB, h => by
    simp only [List.length_nil, Nat.zero_add]
    exact wpAny_of_list rest listed a w hB h
  | i :: is, listed, a, hB, h => by
    simp only [frontB, Bool.and_eq_true] at hB
    have hk : i ∈ Region.ready md ops listed := by simpa using hB.1.1
    obtain ⟨_, o, ho, _⟩ := mem_ready.1 hk
    rw [List.filterMap_cons_some ho] at h
    obtain ⟨v, hy, h⟩ := h
    rw [List.length_cons, show is.length + 1 + rest.length = (is.length + rest.length) + 1 by omega]
    exact wpAny_take ho hs hB.1.2 hB.1.1 (fun c a w => hQ c a o.dst v w) hy (wpAny_of_front hs hQ is _ _ hB.2 h)
end
theorem wp_front {P : Program} {id : Nat} {Q : Exit → Act → World → Prop} {a : Act} {w : World} {l : List Oper} (front rest : List Nat) (hm : P.follows .mixedOrders = true)
    (hlen : front.length + rest.length = l.toArray.size) (hs : Region.noSelect l.toArray = true) (hB : frontB .any l.toArray rest front (Array.replicate l.toArray.size false) = true)
    (hQ : ∀ c a d v w, Q (.panic c) (Act.put a d v) w → Q (.panic c) a w)
    (h : wpFront P l.toArray (fun a' => wpList P l.toArray Q (rest.filterMap (l[·]?)) a' w.drew) (front.filterMap (l[·]?)) a) : (Code.region id l.toArray true).wp P Q a w := by
  refine wp_region_any hm ?_
  have := wpAny_of_front (md := .any) (Q' := Q) (w := w.drew) hs hQ front _ a hB (by simpa using h)
  rwa [hlen] at this
theorem wpList_ops {P : Program} {ops ops' : Array Oper} {Q : Exit → Act → World → Prop} : ∀ (l : List Oper) (a : Act) (w : World), (l.all fun o => o.guard.isNone) = true → wpList P ops' Q l a w → wpList P ops Q l a w
  | [], _, _, _, h => h
  | o :: l, a, w, hg, h => by
    simp only [List.all_cons, Bool.and_eq_true] at hg
    have hn : o.guard = none := by simpa using hg.1
    have h1 : ∀ f, Region.wanted o f = true := fun f => by simp [Region.wanted, hn]
    unfold wpList at h ⊢
    rw [if_pos (h1 _)] at h ⊢
    exact h.imp (fun h => Oper.wp_mono (fun a w h => wpList_ops l a w hg.2 h) h) id
/-- The walk counts on it that what is left is the end of the whole: so the rest is made the whole. -/
theorem wpList_own {P : Program} {ops : Array Oper} {Q : Exit → Act → World → Prop} {l : List Oper} {a : Act} {w : World} (hg : (l.all fun o => o.guard.isNone) = true) (h : wpList P l.toArray Q l a w) : wpList P ops Q l a w :=
  wpList_ops l a w hg h
end Go.Proofs.Ythaoebamnlmfpaa.Reg
