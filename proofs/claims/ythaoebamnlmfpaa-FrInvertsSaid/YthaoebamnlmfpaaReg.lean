/-
  Own text. A region that draws its order: its first n operations are quiet in a class C of worlds (each yields one value in every world of C, and stays in C), the rest stands behind them all and runs in the order of the text, in any world of C.
-/
import Derived.StillTail
import Derived.Deep.Quiet
import Derived.Below
import Derived.Laws.Rows
import Derived.Great.BuildSlice
import Derived.Laws.CopyOwn
namespace Go.Proofs.Ythaoebamnlmfpaa.Reg
open Go
section
variable {P : Program} {ops : Array Oper} {md : Region.Mode} {C : World → Prop}

/-- Whatever order is picked while less than the first n operations are listed; L behind them. -/
def anyHead (P : Program) (md : Region.Mode) (ops : Array Oper) (C : World → Prop) (n : Nat) (L : Array Bool → Act → Prop) : Nat → Array Bool → Act → Prop
  | 0, listed, a => L listed a
  | f + 1, listed, a => Region.ready md ops listed ≠ [] ∧ ∀ i ∈ Region.ready md ops listed, i < n ∧ qOp P ops C i (anyHead P md ops C n L f (listed.setIfInBounds i true)) a

theorem any_of_head {n g : Nat} {L : Array Bool → Act → Prop} {Q' : Exit → Act → World → Prop} (hL : ∀ listed a w, C w → L listed a → wpAny P md ops Q' g listed a w) :
    ∀ (f : Nat) (listed : Array Bool) (a : Act) (w : World), C w → anyHead P md ops C n L f listed a → wpAny P md ops Q' (f + g) listed a w
  | 0, listed, a, w, hC, h => by rw [Nat.zero_add]; exact hL _ _ _ hC h
  | f + 1, listed, a, w, hC, h => by
    rw [show f + 1 + g = (f + g) + 1 by omega]
    exact ⟨fun h0 => absurd h0 h.1, fun i hi => wpOp_of_qOp (C := C) hC (fun a' w' hC' h' => any_of_head hL f _ a' w' hC' h') (h.2 i hi).2⟩

theorem head_first {n i : Nat} {oi : Oper} {v : Value} {L : Array Bool → Act → Prop} (hi : ops[i]? = some oi) (hsel : ∀ (j : Nat) (o : Oper) cs b, ops[j]? = some o → o.op ≠ .select cs b)
    (hs : Region.sinkB md ops n = true) (hc : Region.chainB md ops n = true) (hn : n < ops.size) (hin : i < n)
    (hdone : ∀ listed a, L listed a → ∀ j ∈ Region.ready md ops listed, n ≤ j) :
    ∀ (f : Nat) (listed : Array Bool) (a : Act), HeadInv md ops n listed →
      (∀ j oj, ops[j]? = some oj → j ≠ i → listed.getD j true = false → (∀ e ∈ oj.after, Region.binds md e = true → e.on ≠ i) → oi.apart ops oj = true) →
      i ∈ Region.ready md ops listed → YieldsIn P ops C oi v a →
      anyHead P md ops C n L f (listed.setIfInBounds i true) (a.put oi.dst v) → anyHead P md ops C n L (f + 1) listed a := by
  intro f
  induction f with
  | zero =>
    intro listed a inv _ hr hy H
    have hun := (mem_ready.1 hr).1
    refine ⟨fun h => (by rw [h] at hr; cases hr), fun j hj => ?_⟩
    have hjn : j < n := by
      rcases Nat.lt_or_ge j n with h | h
      · exact h
      · exact absurd hj (tail_waits hs hc hn inv _ i rfl hin hun j h)
    refine ⟨hjn, ?_⟩
    by_cases hji : j = i
    · subst hji; exact YieldsIn.qOp hi hy H
    · have := hdone _ _ H j (ready_mono hj hji)
      omega
  | succ f ih =>
    intro listed a inv hfree hr hy H
    have hun := (mem_ready.1 hr).1
    refine ⟨fun h => (by rw [h] at hr; cases hr), fun j hj => ?_⟩
    have hjn : j < n := by
      rcases Nat.lt_or_ge j n with h | h
      · exact h
      · exact absurd hj (tail_waits hs hc hn inv _ i rfl hin hun j h)
    refine ⟨hjn, ?_⟩
    by_cases hji : j = i
    · subst hji; exact YieldsIn.qOp hi hy H
    · have h1 := (H.2 j (ready_mono hj hji)).2
      obtain ⟨hjun, oj, hoj, hall⟩ := mem_ready.1 hj
      have hnot : ∀ e ∈ oj.after, Region.binds md e = true → e.on ≠ i := fun e he hb heq => by
        have h1 := hall e he hb
        rw [heq, getD_both hun] at h1
        cases h1
      have h2 := qOp_put hoj (hfree j oj hoj hji hjun hnot) (fun cs b => hsel i oi cs b hi) (fun cs b => hsel j oj cs b hoj) hy h1
      have hfree' : ∀ k ok, ops[k]? = some ok → k ≠ i → (listed.setIfInBounds j true).getD k true = false →
          (∀ e ∈ ok.after, Region.binds md e = true → e.on ≠ i) → oi.apart ops ok = true := fun k ok hk hki hun hno => by
        refine hfree k ok hk hki ?_ hno
        by_cases hjk : j = k
        · subst hjk; exact hjun
        · rw [getD_set_ne true hjk] at hun; exact hun
      refine qOp_mono (fun a' h3 => ih (listed.setIfInBounds j true) a' (inv.set hj hjn) hfree' (ready_mono hr (Ne.symm hji)) h3.1 ?_) h2
      rw [Array.setIfInBounds_comm _ _ hji]
      exact h3.2

theorem head_lex {n g : Nat} {Lq : Act → Prop} (hsel : Region.noSelect ops = true) (hs : Region.sinkB md ops n = true) (hc : Region.chainB md ops n = true) (hn : n < ops.size) :
    ∀ (l : List Oper) (k : Nat) (listed : Array Bool) (a : Act), (∀ j, j < l.length → l[j]? = ops[k + j]?) → k + l.length = n → HeadInv md ops n listed →
    Region.lexHead md ops g l.length k listed = true → wpQuiet P ops C Lq l a →
    anyHead P md ops C n (fun listed' a' => Region.seqB md ops g n listed' = true ∧ Lq a') l.length listed a
  | [], k, listed, a, _, hk, _, hB, h => by
    have : k = n := by simpa using hk
    subst this
    exact ⟨by simpa [Region.lexHead] using hB, h⟩
  | o :: l, k, listed, a, hl, hk, inv, hB, h => by
    have h0 : ops[k]? = some o := by simpa using (hl 0 (by simp)).symm
    simp only [List.length_cons, Region.lexHead, Bool.and_eq_true] at hB
    obtain ⟨⟨hr, hf⟩, hB'⟩ := hB
    have hkn : k < n := by simp only [List.length_cons] at hk; omega
    have hr' : k ∈ Region.ready md ops listed := by simpa using hr
    have hst : qOp P ops C k (wpQuiet P ops C Lq l) a := by unfold qOp; simp only [h0]; exact h
    obtain ⟨v, hy, hK⟩ := yieldsIn_of_qOp h0 hst
    exact head_first h0 (Region.noSelect_spec hsel) hs hc hn hkn (fun listed' a' hL => seqB_ready hL.1) l.length listed a inv (Region.free_spec h0 hf) hr' hy
      (head_lex hsel hs hc hn l (k + 1) _ _ (fun j hj => by have := hl (j + 1) (by simp; omega); simpa [Nat.add_assoc, Nat.add_comm 1 j] using this) (by simp only [List.length_cons] at hk; omega) (inv.set hr' hkn) hB' hK)
end

/-- A drawn region: a quiet head of n operations, in a class C of worlds, and a tail. -/
theorem wp_tail {P : Program} {id : Nat} {Q : Exit → Act → World → Prop} {a : Act} {w : World} {l : List Oper} (C : World → Prop) (n : Nat) (hm : P.follows .mixedOrders = true) (hB : Region.lexTailB .any l.toArray n = true)
    (hC : C { w with drawn := w.drawn + 1 })
    (h : wpQuiet P l.toArray C (fun a' => ∀ w', C w' → wpList P l.toArray Q (l.drop n) a' w') (l.take n) a) : (Code.region id l.toArray true).wp P Q a w := by
  simp only [Region.lexTailB, Bool.and_eq_true, decide_eq_true_eq] at hB
  obtain ⟨⟨⟨⟨hsel, hn⟩, hs⟩, hc⟩, hlex⟩ := hB
  have hn' : n < l.length := by simpa using hn
  have htl : (l.take n).length = n := by simp; omega
  have hdl : (l.drop n).length = l.toArray.size - n := by simp
  have inv0 : HeadInv .any l.toArray n (Array.replicate l.toArray.size false) :=
    ⟨by simp, fun j oj _ hl => (by rw [getD_replicate_false] at hl; cases hl), fun t _ ht => getD_in (by simpa using ht) (getD_replicate_false _ _)⟩
  have H := head_lex (md := .any) (C := C) (g := l.toArray.size - n) hsel hs hc hn (l.take n) 0 _ a (fun j hj => by
    have hj' : j < n := by rw [htl] at hj; exact hj
    simp [hj']) (by simpa using htl) inv0 (by rw [htl]; exact hlex) h
  refine wp_region_any hm ?_
  have := any_of_head (Q' := Q) (g := l.toArray.size - n) (fun listed a' w' hC' hL => by
    have := wpAny_of_seq (md := .any) (Q' := Q) (l.drop n) n listed a' w' (fun j => by simp [List.getElem?_drop]) (by rw [hdl]; exact hL.1) (hL.2 w' hC')
    rwa [hdl] at this) _ _ _ { w with drawn := w.drawn + 1 } hC H
  rw [htl, show n + (l.toArray.size - n) = l.toArray.size by omega] at this
  exact this

/-- A drawn region all of whose operations are quiet in C. -/
theorem wp_all {P : Program} {id : Nat} {Q : Exit → Act → World → Prop} {a : Act} {w : World} {l : List Oper} (C : World → Prop) (hm : P.follows .mixedOrders = true) (hB : Region.lexB .any l.toArray = true)
    (hC : C { w with drawn := w.drawn + 1 })
    (h : wpQuiet P l.toArray C (fun a' => ∀ w', C w' → Q .normal a' w') l a) : (Code.region id l.toArray true).wp P Q a w :=
  wp_region_quiet (C := C) hm hB hC (by simpa using h)
/-- The class 'below the size of w the world is as w was', told as a family of worlds, so that what is known of each of them is a plain rewrite rule. -/
theorem fam (w : World) : ∃ (I : Type) (_ : Nonempty I) (f : I → World), (∀ i, RowKit.Below w.heap.size w (f i)) ∧ (∀ w', RowKit.Below w.heap.size w w' → ∃ i, w' = f i) :=
  ⟨{ w' : World // RowKit.Below w.heap.size w w' }, ⟨⟨w, RowKit.Below.refl _ _⟩⟩, Subtype.val, fun i => i.2, fun w' h => ⟨⟨w', h⟩, rfl⟩⟩

theorem quiet_post {P : Program} {ops : Array Oper} {C : World → Prop} {Q Q' : Act → Prop} (h : ∀ a, Q a → Q' a) : ∀ (l : List Oper) (a : Act), wpQuiet P ops C Q l a → wpQuiet P ops C Q' l a
  | [], a, hh => h a hh
  | o :: l, a, hh => by
    unfold wpQuiet at hh ⊢
    split
    · rename_i hw; rw [if_pos hw] at hh; exact Oper.quiet_mono (fun a => quiet_post h l a) hh
    · rename_i hw; rw [if_neg hw] at hh; exact quiet_post h l _ hh

/-- A drawn region: a head of n operations that read and make new memory, and a tail. -/
theorem wp_fam {P : Program} {id : Nat} {Q : Exit → Act → World → Prop} {a : Act} {w : World} {l : List Oper} (n : Nat) (hm : P.follows .mixedOrders = true) (hB : Region.lexTailB .any l.toArray n = true)
    (h : ∀ (I : Type) (_ : Nonempty I) (f : I → World), (∀ i, RowKit.Below w.heap.size w (f i)) → (∀ w', RowKit.Below w.heap.size w w' → ∃ i, w' = f i) →
      wpQuiet P l.toArray (fun w' => ∃ i, w' = f i) (fun a' => ∀ w', RowKit.Below w.heap.size w w' → wpList P l.toArray Q (l.drop n) a' w') (l.take n) a) : (Code.region id l.toArray true).wp P Q a w := by
  obtain ⟨I, hI, f, hf, hb⟩ := fam w
  exact wp_tail (fun w' => ∃ i, w' = f i) n hm hB (hb _ ⟨rfl, rfl, rfl, Nat.le_refl _, fun _ _ => rfl⟩) (quiet_post (fun a' h' w' ⟨i, hi⟩ => h' w' (by rw [hi]; exact hf i)) _ _ (h I hI f hf hb))

/-- A drawn region that reads and makes new memory. -/
theorem wp_fam_all {P : Program} {id : Nat} {Q : Exit → Act → World → Prop} {a : Act} {w : World} {l : List Oper} (hm : P.follows .mixedOrders = true) (hB : Region.lexB .any l.toArray = true)
    (h : ∀ (I : Type) (_ : Nonempty I) (f : I → World), (∀ i, RowKit.Below w.heap.size w (f i)) → (∀ w', RowKit.Below w.heap.size w w' → ∃ i, w' = f i) →
      wpQuiet P l.toArray (fun w' => ∃ i, w' = f i) (fun a' => ∀ w', RowKit.Below w.heap.size w w' → Q .normal a' w') l a) : (Code.region id l.toArray true).wp P Q a w := by
  obtain ⟨I, hI, f, hf, hb⟩ := fam w
  exact wp_all (fun w' => ∃ i, w' = f i) hm hB (hb _ ⟨rfl, rfl, rfl, Nat.le_refl _, fun _ _ => rfl⟩) (quiet_post (fun a' h' w' ⟨i, hi⟩ => h' w' (by rw [hi]; exact hf i)) _ _ (h I hI f hf hb))

/-- A callee that makes new memory alone, met inside such a region. -/
theorem calls_fam {P : Program} {g : FuncId} {args : Array Value} {w : World} {I : Type} {f : I → World} (hf : ∀ i, RowKit.Below w.heap.size w (f i)) (hb : ∀ w', RowKit.Below w.heap.size w w' → ∃ i, w' = f i)
    {v : Value} {i : I} (h : Calls P g args (f i) fun e w' => e = .returned v ∧ RowKit.Below (f i).heap.size (f i) w') : Calls P g args (f i) fun e w'' => e = .returned v ∧ ∃ j, w'' = f j :=
  h.mono fun _ _ ⟨he, hw⟩ => ⟨he, hb _ ((hf i).trans (hw.mono (hf i).size))⟩

/-- A fact that the walk neither rewrites by nor looks into. -/
structure Keep (p : Prop) : Prop where
  out : p

theorem old_alloc (w : World) (o : Obj) (i : Nat) (h : i < w.heap.size) : (w.alloc o).heap[i]? = w.heap[i]? := by
  show (w.heap.push o)[i]? = w.heap[i]?
  rw [Array.getElem?_push, if_neg (by omega)]

/-- A block that is known whole, none of it frozen. -/
structure Has (w : World) (g : Nat) (t : TypeId) (cs : Array Value) : Prop where
  eq : w.heap[g]? = some (.cells cs t (0, 0))
section
variable {w w' : World} {g : Nat} {t : TypeId} {cs : Array Value}
theorem Has.lt (h : Has w g t cs) : g < w.heap.size := by
  rcases Nat.lt_or_ge g w.heap.size with hlt | hge
  · exact hlt
  · have := h.eq; rw [Array.getElem?_eq_none hge] at this; cases this
theorem Has.cell (h : Has w g t cs) (i : Nat) : w.cell? ⟨g, i, none⟩ = cs[i]? := cell_of_row w g i cs t (0, 0) h.eq
theorem Has.frozen (h : Has w g t cs) (i : Nat) : w.frozen? ⟨g, i, none⟩ = false := frozen_of_row w g i cs t h.eq
theorem Has.new (w : World) (t : TypeId) (cs : Array Value) : Has (w.alloc (.cells cs t)) w.heap.size t cs := ⟨heap_alloc_new w _⟩
theorem Has.new' (w : World) {g : Nat} (hg : g = w.heap.size) (t : TypeId) (cs : Array Value) : Has (w.alloc (.cells cs t)) g t cs := by subst hg; exact Has.new w t cs
theorem Has.alloc (h : Has w g t cs) (o : Obj) : Has (w.alloc o) g t cs := ⟨(old_alloc w o g h.lt).trans h.eq⟩
theorem Has.set_ (h : Has w g t cs) (i : Nat) (u : Value) : Has (w.setCell ⟨g, i, none⟩ u) g t (cs.setIfInBounds i u) := ⟨heap_setCell_same w g i cs t u h.eq⟩
theorem Has.far (h : Has w g t cs) {p : Addr} (hp : g ≠ p.block) (u : Value) : Has (w.setCell p u) g t cs := ⟨(heap_setCell_other w p g u hp).trans h.eq⟩
theorem Has.below {B : Nat} (h : Has w g t cs) (hb : RowKit.Below B w w') (hg : g < B) : Has w' g t cs := ⟨(hb.block g hg).trans h.eq⟩
theorem Has.keep (h : Has w g t cs) (hb : RowKit.Below w.heap.size w w') : Has w' g t cs := h.below hb h.lt
theorem Has.drew (h : Has w g t cs) : Has w.drew g t cs := ⟨h.eq⟩
end
theorem Has.row {w : World} {g : Nat} {t : TypeId} {cs : Array Value} (h : Has w g t cs) (cs' : Array Value) : Has (w.setRow g cs') g t cs' := ⟨setRow_heap w g cs cs' t (0, 0) h.eq⟩
theorem Has.rowFar {w : World} {g g' : Nat} {t : TypeId} {cs : Array Value} (h : Has w g t cs) (hg : g ≠ g') (cs' : Array Value) : Has (w.setRow g' cs') g t cs := ⟨(setRow_other w g' g cs' hg).trans h.eq⟩
theorem below_row {B : Nat} {a w : World} (h : RowKit.Below B a w) {g : Nat} (hg : B ≤ g) (cs : Array Value) : RowKit.Below B a (w.setRow g cs) :=
  h.trans ⟨rfl, rfl, rfl, by simp, fun k hk => setRow_other w g k cs (by omega)⟩
/-- A whole row stored; the world behind it is a variable. -/
theorem store_abs {P : Program} {w : World} {ops : Array Oper} {rest : List Oper} {o : Oper} {a : Act} {Q : Exit → Act → World → Prop} (hgd : o.guard = none) (ty : TypeId) (x y : Operand) (ho : o.op = .store ty x y)
    (hd : o.dst = none) (g : Nat) (cells : Array Value) (hx : a.eval x = .pointer (some ⟨g, 0, none⟩)) (hy : a.eval y = .agg cells)
    (t : TypeId) (old : Array Value) (hg : Has w g t old) (hi : (P.info? ty).map (·.size) = some cells.size)
    (hold : old.size = cells.size) (h1 : cells.all (·.oneCell') = true) (B : Nat) (w0 : World) (hb : RowKit.Below B w0 w) (hB : B ≤ g)
    (h : ∀ w', Has w' g t cells → (∀ g' t' cs', Has w g' t' cs' → g' ≠ g → Has w' g' t' cs') → RowKit.Below B w0 w' → wpList P ops Q rest a w') : wpList P ops Q (o :: rest) a w :=
  wpList_store_rowTo hgd ty x y ho hd g cells hx hy t old hg.eq hi hold h1 (h _ (hg.row cells) (fun _ _ _ hh hne => hh.rowFar hne cells) (below_row hb hB cells))
/-- A list's number, 0 beyond its end (a name that the walk leaves alone). -/
def nth (l : List Int) (i : Nat) : Int := l.getD i 0
theorem nth_set (l : List Int) (i j : Nat) (x : Int) (h : i < l.length) : nth (l.set i x) j = if i = j then x else nth l j := by
  unfold nth
  by_cases e : i = j
  · subst e; simp [h]
  · simp [e]
theorem nth_append_left (l m : List Int) (i : Nat) (h : i < l.length) : nth (l ++ m) i = nth l i := by simp [nth, List.getElem?_append_left h]
theorem nth_append_right (l m : List Int) (i : Nat) (h : l.length ≤ i) : nth (l ++ m) i = nth m (i - l.length) := by simp [nth, List.getElem?_append_right h]
theorem ext_nth {l m : List Int} (h : l.length = m.length) (g : ∀ i, i < l.length → nth l i = nth m i) : l = m := by
  refine List.ext_getElem h fun i h1 h2 => ?_
  have := g i h1
  simpa [nth, h1, h2] using this
/-- Cells of one integer kind. -/
def vals (k : IntKind) (xs : List Int) : Array Value := (xs.map (Value.int k)).toArray
theorem vals_get {k : IntKind} {xs : List Int} {i : Nat} (h : i < xs.length) : (vals k xs)[i]? = some (.int k (nth xs i)) := by
  simp [vals, nth, h]
theorem vals_set {k : IntKind} {xs : List Int} {i : Nat} {x : Int} : (vals k xs).setIfInBounds i (.int k x) = vals k (xs.set i x) := by
  simp [vals, List.map_set]
theorem vals_one {k : IntKind} {xs : List Int} : (vals k xs).all (·.oneCell') = true := by
  simp [vals, Value.oneCell']
theorem vals_size {k : IntKind} {xs : List Int} : (vals k xs).size = xs.length := by simp [vals]
theorem Has.src {w : World} {g : Nat} {t : TypeId} {k : IntKind} {xs ys : List Int} (h : Has w g t (vals k xs)) {off n : Nat} (hy : ys = (xs.drop off).take n) :
    ∀ (j : Nat) (v : Value), (ys.map (Value.int k))[j]? = some v → w.cell? ((⟨g, off, none⟩ : Addr).add j) = some v := by
  intro j v hv
  have hadd : (⟨g, off, none⟩ : Addr).add j = ⟨g, off + j, none⟩ := by unfold Addr.add; split <;> simp_all
  rw [hadd, h.cell]
  subst hy
  rw [List.getElem?_map] at hv
  simp only [vals, List.getElem?_toArray, List.getElem?_map]
  have hj : j < ((xs.drop off).take n).length := by
    rcases Nat.lt_or_ge j ((xs.drop off).take n).length with h | h
    · exact h
    · rw [List.getElem?_eq_none h] at hv; cases hv
  rw [List.getElem?_take_of_lt (by simp at hj; omega), List.getElem?_drop] at hv
  exact hv
/-- The built-in copy between blocks of numbers that are known whole; the world behind it is a variable. -/
theorem copy_abs {P : Program} {w : World} {ops : Array Oper} {rest : List Oper} {o : Oper} {a : Act} {Q : Exit → Act → World → Prop} (hgd : o.guard = none) (d s : Operand) (dT sT : TypeId)
    (ho : o.op = .call { callee := .builtin .copy, args := #[d, s], argTypes := #[dT, sT] }) (elem : TypeId) (hu : P.underlying dT = some (.slice elem)) (hsz : (P.info? elem).map (·.size) = some 1)
    (g off dLen dCap g' so sLen sCap : Nat) (hd : a.eval d = .slice (some ⟨g, off, none⟩) dLen dCap) (hs : a.eval s = .slice (some ⟨g', so, none⟩) sLen sCap)
    (k : IntKind) (t t' : TypeId) (xs ys cs : List Int) (hg : Has w g t (vals k xs)) (hg' : Has w g' t' (vals k ys)) (n : Nat) (hcs : cs = (ys.drop so).take n) (hn : cs.length = Nat.min sLen dLen)
    (hfit : off + cs.length ≤ xs.length) (B : Nat) (w0 : World) (hb : RowKit.Below B w0 w) (hB : B ≤ g)
    (h : ∀ w', Has w' g t (vals k (xs.take off ++ (cs ++ xs.drop (off + cs.length)))) → (∀ g' t' cs', Has w g' t' cs' → g' ≠ g → Has w' g' t' cs') → RowKit.Below B w0 w' → wpList P ops Q rest (a.put o.dst (goInt cs.length)) w') :
    wpList P ops Q (o :: rest) a w := by
  refine wpList_copy_own hgd d s dT sT ho elem hu hsz g off dLen dCap ⟨g', so, none⟩ sLen sCap hd hs (vals k xs) t hg.eq (cs.map (Value.int k)) (by simpa using hn) (hg'.src hcs) (by simpa [vals_size] using hfit) (fun v hv => ?_) ?_
  · obtain ⟨x, _, rfl⟩ := List.mem_map.1 hv
    rfl
  · have := h (w.setRow g (vals k (xs.take off ++ (cs ++ xs.drop (off + cs.length))))) (hg.row _) (fun _ _ _ hh hne => hh.rowFar hne _) (below_row hb hB _)
    simpa [vals] using this
theorem Has.val {w : World} {g : Nat} {t : TypeId} {k : IntKind} {xs : List Int} (h : Has w g t (vals k xs)) {i : Nat} (hi : i < xs.length) : w.cell? ⟨g, i, none⟩ = some (.int k (nth xs i)) :=
  (h.cell i).trans (vals_get hi)
/-- A row that is filled from the left: F up to t, Z behind. -/
def fill (n : Nat) (F Z : Nat → Int) (t : Nat) : List Int := (List.range n).map fun j => if j < t then F j else Z j
theorem fill_len (n : Nat) (F Z : Nat → Int) (t : Nat) : (fill n F Z t).length = n := by simp [fill]
theorem fill_nth {n : Nat} (F Z : Nat → Int) (t : Nat) {j : Nat} (hj : j < n) : nth (fill n F Z t) j = if j < t then F j else Z j := by simp [fill, nth, hj]
theorem fill_set {n : Nat} (F Z : Nat → Int) {t : Nat} (ht : t < n) {x : Int} (hx : x = F t) : (fill n F Z t).set t x = fill n F Z (t + 1) := by
  subst hx
  refine ext_nth (by rw [List.length_set, fill_len, fill_len]) fun i hi => ?_
  rw [List.length_set, fill_len] at hi
  rw [nth_set _ _ _ _ (by rw [fill_len]; exact ht), fill_nth _ _ _ hi, fill_nth _ _ _ hi]
  by_cases e : t = i
  · subst e; simp
  · simp only [e, if_false]
    by_cases e2 : i < t
    · simp [e2, show i < t + 1 by omega]
    · simp [e2, show ¬ i < t + 1 by omega]
theorem fill_zero (n : Nat) (F : Nat → Int) (l : List Int) (hl : l.length = n) : fill n F (nth l) 0 = l :=
  ext_nth (by rw [fill_len, hl]) fun i hi => by rw [fill_nth _ _ _ (by rw [fill_len] at hi; exact hi)]; simp
/-- A list by its function. -/
def tab (n : Nat) (F : Nat → Int) : List Int := (List.range n).map F
theorem tab_len (n : Nat) (F : Nat → Int) : (tab n F).length = n := by simp [tab]
theorem tab_nth {n : Nat} (F : Nat → Int) {j : Nat} (hj : j < n) : nth (tab n F) j = F j := by simp [tab, nth, hj]
theorem tab_eq {n : Nat} {F : Nat → Int} {l : List Int} (hl : l.length = n) (h : ∀ j, j < n → nth l j = F j) : l = tab n F :=
  ext_nth (by rw [hl, tab_len]) fun i hi => by rw [h i (by omega), tab_nth F (by omega)]
theorem tab_set {n : Nat} (F F' : Nat → Int) {t : Nat} (ht : t < n) {x : Int} (hx : x = F' t) (ho : ∀ j, j < n → j ≠ t → F' j = F j) : (tab n F).set t x = tab n F' := by
  refine tab_eq (by rw [List.length_set, tab_len]) fun j hj => ?_
  rw [nth_set _ _ _ _ (by rw [tab_len]; exact ht)]
  by_cases e : t = j
  · subst e; rw [if_pos rfl, hx]
  · rw [if_neg e, tab_nth F hj, ho j hj (Ne.symm e)]
/-- An element of an array by value. -/
theorem run_index_vals {P : Program} {t e : TypeId} {n : Nat} {d : TypeDesc} {k : IntKind} (hu : P.underlying t = some (.array n e)) (he : P.underlying e = some d) (hd : (match d with | .struct _ | .array _ _ => true | _ => false) = false)
    (hs : (P.info? e).map (·.size) = some 1) {xs : List Int} (hl : xs.length = n) {i : Nat} (hi : i < n) (w : World) : (Instr.index t (.agg (vals k xs)) (.int .i64 (i : Int))).run P w = .ok (.int k (nth xs i)) w := by
  have hg := vals_get (k := k) (xs := xs) (i := i) (by omega)
  have hagg : (isAgg e).run P w = .ok false w := by
    unfold isAgg
    rw [Sem.run_bind, run_underlying he w]
    cases d <;> simp_all
  cases hq : P.info? e with
  | none => simp [hq] at hs
  | some inf =>
    have h1 : inf.size = 1 := by simpa [hq] using hs
    simp [Instr.index, asIntOf, run_underlying hu, sizeOf, typeInfo, hq, h1, part, hagg, hg, hi]
end Go.Proofs.Ythaoebamnlmfpaa.Reg
