/-
  Own text. A region that draws its order: several operations that make a variable each, in whatever order: behind them each lies at a place of its own.
-/
import Derived.Test.YthaoebamnlmfpaaRegD
namespace Go.Proofs.Ythaoebamnlmfpaa.Reg
open Go
section
variable {P : Program} {ops : Array Oper} {md : Region.Mode} {Q : Exit → Act → World → Prop} {S : World → Prop}
/-- Number i makes a variable of type t, whose cells are z, and lays its place into slot d. -/
structure AllocAt (P : Program) (ops : Array Oper) (i : Nat) (d : Tmp) (t : TypeId) (z : Array Value) : Prop where
  oper : ∃ o, ops[i]? = some o ∧ o.guard = none ∧ o.dst = some d ∧ o.op = .alloc t
  zero : ∃ inf v, P.info? t = some inf ∧ inf.zero = some v ∧ v.cells = z
theorem AllocAt.run {i : Nat} {d : Tmp} {t : TypeId} {z : Array Value} (h : AllocAt P ops i d t z) {K : Act → World → Prop} {a : Act} {w : World}
    (hk : K (a.put (some d) (.pointer (some ⟨w.heap.size, 0, none⟩))) (w.alloc (.cells z t))) : wpOp P ops Q i K a w := by
  obtain ⟨o, ho, hg, hd, hop⟩ := h.oper
  obtain ⟨inf, v, hi, hz, hc⟩ := h.zero
  unfold wpOp
  simp only [ho]
  rw [if_pos (by simp [Region.wanted, hg])]
  refine .inl ?_
  unfold Oper.wp execOp
  have hr : (Instr.alloc t true (.tuple #[])).run P w = .ok (.pointer (some ⟨w.heap.size, 0, none⟩)) (w.alloc (.cells z t)) := by
    subst hc
    simp [Instr.alloc, zeroValue, typeInfo, hi, hz, newVar, newRow]
  simp only [hop, Sem.run_bind, hr, Result.andThen_ok, Sem.run_pure, Oper.upon]
  rw [hd]
  exact hk
def lst (L : Array Bool) (ex : List Nat) : Array Bool := ex.foldl (fun l i => l.setIfInBounds i true) L
def pts (dst : Nat → Tmp) (G : Nat → Nat) (a : Act) (ex : List Nat) : Act := ex.foldl (fun a i => a.put (some (dst i)) (.pointer (some ⟨G i, 0, none⟩))) a
/-- Nothing but these may come up, whichever has. -/
def allocB (md : Region.Mode) (ops : Array Oper) : Nat → List Nat → Array Bool → Bool
  | 0, rl, _ => rl.isEmpty
  | n + 1, rl, L => decide (Region.ready md ops L = rl) && rl.all fun i => allocB md ops n (rl.erase i) (L.setIfInBounds i true)
theorem pts_congr {dst : Nat → Tmp} {G G' : Nat → Nat} : ∀ (ex : List Nat) (a : Act), (∀ i ∈ ex, G i = G' i) → pts dst G a ex = pts dst G' a ex
  | [], _, _ => rfl
  | i :: ex, a, h => by
    unfold pts
    simp only [List.foldl_cons, h i (by simp)]
    exact pts_congr ex _ fun j hj => h j (by simp [hj])
theorem allocs_aux {f B : Nat} {al : List Nat} {L : Array Bool} {a : Act} {dst : Nat → Tmp} {ty : Nat → TypeId} {z : Nat → Array Value} (hS : ∀ w w', S w → RowKit.Below w.heap.size w w' → S w') (hnd : al.Nodup)
    (hinj : ∀ i ∈ al, ∀ j ∈ al, i ≠ j → dst i ≠ dst j) (hal : ∀ i ∈ al, AllocAt P ops i (dst i) (ty i) (z i))
    (hfin : ∀ (G : Nat → Nat) (w' : World), S w' → (∀ i ∈ al, Has w' (G i) (ty i) (z i) ∧ B ≤ G i) → (∀ i ∈ al, ∀ j ∈ al, i ≠ j → G i ≠ G j) → wpAnyU P md ops Q S f (lst L al) (pts dst G a al) w') :
    ∀ (n : Nat) (rl ex : List Nat) (G : Nat → Nat) (w : World), rl.length = n → (ex ++ rl).Perm al → allocB md ops n rl (lst L ex) = true → S w → B ≤ w.heap.size →
      (∀ i ∈ ex, Has w (G i) (ty i) (z i) ∧ B ≤ G i) → (∀ i ∈ ex, ∀ j ∈ ex, i ≠ j → G i ≠ G j) → wpAnyU P md ops Q S (n + f) (lst L ex) (pts dst G a ex) w
  | 0, rl, ex, G, w, hl, hp, _, hs, _, hf, hd => by
    obtain rfl : rl = [] := List.eq_nil_of_length_eq_zero hl
    rw [List.append_nil] at hp
    have e1 : lst L ex = lst L al := hp.foldl_eq' (fun x _ y _ l => by
      by_cases hxy : x = y
      · subst hxy; rfl
      · exact Array.setIfInBounds_comm _ _ hxy) _
    have e2 : pts dst G a ex = pts dst G a al := hp.foldl_eq' (fun x hx y hy c => by
      by_cases hxy : x = y
      · subst hxy; rfl
      · exact Act.put_comm c _ _ (fun d hdx he => by
          injection hdx with h1
          injection he with h2
          exact hinj x (hp.subset hx) y (hp.subset hy) hxy (h1.trans h2.symm))) _
    rw [e1, e2, Nat.zero_add]
    exact hfin G w hs (fun i hi => hf i (hp.symm.subset hi)) (fun i hi j hj => hd i (hp.symm.subset hi) j (hp.symm.subset hj))
  | n + 1, rl, ex, G, w, hl, hp, hB, hs, hb, hf, hd => by
    simp only [allocB, Bool.and_eq_true, decide_eq_true_eq, List.all_eq_true] at hB
    rw [show n + 1 + f = (n + f) + 1 by omega]
    refine ⟨fun h0 => (by rw [hB.1] at h0; rw [h0] at hl; cases hl), fun i hi w' hw' => ?_⟩
    rw [hB.1] at hi
    have hial : i ∈ al := hp.subset (by simp [hi])
    have hnd' : (ex ++ rl).Nodup := hp.symm.nodup hnd
    have hiex : i ∉ ex := fun h => (List.nodup_append.1 hnd').2.2 i h i hi rfl
    refine (hal i hial).run ?_
    have hbw : RowKit.Below w.heap.size w (w'.alloc (.cells (z i) (ty i))) := hw'.alloc hw'.size _
    refine ⟨hS _ _ hs hbw, ?_⟩
    have ih := allocs_aux hS hnd hinj hal hfin n (rl.erase i) (ex ++ [i]) (fun j => if j = i then w'.heap.size else G j) (w'.alloc (.cells (z i) (ty i))) (by rw [List.length_erase_of_mem hi]; omega)
      (by
        refine List.Perm.trans ?_ hp
        rw [List.append_assoc]
        exact List.Perm.append_left ex (List.perm_cons_erase hi).symm)
      (by rw [show lst L (ex ++ [i]) = (lst L ex).setIfInBounds i true by unfold lst; rw [List.foldl_append]; rfl]; exact hB.2 i hi)
      (hS _ _ hs hbw) (Nat.le_trans hb hbw.size)
      (fun j hj => by
        rcases List.mem_append.1 hj with hj | hj
        · have hne : j ≠ i := fun e => hiex (e ▸ hj)
          simp only [if_neg hne]
          exact ⟨(hf j hj).1.keep hbw, (hf j hj).2⟩
        · obtain rfl : j = i := by simpa using hj
          simp only [if_true]
          exact ⟨Has.new _ _ _, Nat.le_trans hb hw'.size⟩)
      (fun j hj k hk hjk => by
        have lt : ∀ m, m ∈ ex → G m < w'.heap.size := fun m hm => Nat.lt_of_lt_of_le (hf m hm).1.lt hw'.size
        have ne : ∀ m, m ∈ ex → m ≠ i := fun m hm e => hiex (by rw [← e]; exact hm)
        rcases List.mem_append.1 hj with h1 | h1
        · rcases List.mem_append.1 hk with h2 | h2
          · rw [if_neg (ne j h1), if_neg (ne k h2)]; exact hd j h1 k h2 hjk
          · have h3 : k = i := by simpa using h2
            rw [if_neg (ne j h1), if_pos h3]; exact Nat.ne_of_lt (lt j h1)
        · have h3 : j = i := by simpa using h1
          rcases List.mem_append.1 hk with h2 | h2
          · rw [if_pos h3, if_neg (ne k h2)]; exact Ne.symm (Nat.ne_of_lt (lt k h2))
          · have h4 : k = i := by simpa using h2
            exact absurd (h3.trans h4.symm) hjk)
    have e1 : lst L (ex ++ [i]) = (lst L ex).setIfInBounds i true := by unfold lst; rw [List.foldl_append]; rfl
    have e2 : pts dst (fun j => if j = i then w'.heap.size else G j) a (ex ++ [i]) = (pts dst G a ex).put (some (dst i)) (.pointer (some ⟨w'.heap.size, 0, none⟩)) := by
      have e3 : pts dst (fun j => if j = i then w'.heap.size else G j) a ex = pts dst G a ex := pts_congr ex a fun j hj => if_neg (fun e : j = i => hiex (by rw [← e]; exact hj))
      unfold pts at *
      rw [List.foldl_append, e3]
      simp
    rw [e1, e2] at ih
    exact ih
/-- Variables made in whatever order. -/
theorem wpAnyU_allocs {f B : Nat} (al : List Nat) (dst : Nat → Tmp) (ty : Nat → TypeId) (z : Nat → Array Value) {listed : Array Bool} {a : Act} {w : World} (hS : ∀ w w', S w → RowKit.Below w.heap.size w w' → S w') (hnd : al.Nodup)
    (hinj : ∀ i ∈ al, ∀ j ∈ al, i ≠ j → dst i ≠ dst j) (hal : ∀ i ∈ al, AllocAt P ops i (dst i) (ty i) (z i)) (hB : allocB md ops al.length al listed = true) (hs : S w) (hb : B ≤ w.heap.size)
    (hfin : ∀ (G : Nat → Nat) (w' : World), S w' → (∀ i ∈ al, Has w' (G i) (ty i) (z i) ∧ B ≤ G i) → (∀ i ∈ al, ∀ j ∈ al, i ≠ j → G i ≠ G j) → wpAnyU P md ops Q S f (lst listed al) (pts dst G a al) w') :
    wpAnyU P md ops Q S (al.length + f) listed a w :=
  allocs_aux hS hnd hinj hal hfin al.length al [] (fun _ => 0) w rfl (by simp) hB hs hb (fun i hi => by cases hi) (fun i hi => by cases hi)
end
end Go.Proofs.Ythaoebamnlmfpaa.Reg
