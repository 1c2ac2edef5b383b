/-
  Own text. A region that draws its order: a slice written out, a slice appended to it, another slice written out, appended; a variable made at any time. Speaks of no program.
-/
import Derived.Test.YtajiinecicghkaaDoorMRegT
import Derived.Test.YtajiinecicghkaaDoorMReg
import Derived.Great.Frames
namespace Go.Proofs.YtajiinecicghkaaDoor.Reg
set_option linter.unusedVariables false
set_option linter.unusedSimpArgs false
open Go Go.RowKit Go.Proofs.YtajiinecicghkaaDoor.Base
section
variable {P : Program} {ops : Array Oper} {md : Region.Mode} {Q : Exit → Act → World → Prop}
theorem app_run {i : Nat} {o : Oper} {K : Act → World → Prop} {b : Act} {y : World} (hi : ops[i]? = some o) (hgd : o.guard = none) {s x : Operand} {t : TypeId} (ho : o.op = .call { callee := .builtin .append, args := #[s, x], argTypes := #[t, t] }) {d : Tmp} (hd : o.dst = some d) (base : Nat) {e : TypeId} (ht : P.underlying t = some (.slice e)) (he : IntElem P e .u64 8) {A : Option Addr} {n c : Nat} {xs : List Int} (hs : b.eval s = .slice A n c) (hown : Own y base e .u64 A n c xs) {B : Nat} {A2 : Option Addr} {m c2 : Nat} {ys : List Int} (hx : b.eval x = .slice A2 m c2) (hr : Rd y B A2 m .u64 ys) (hN : n + m ≤ 2) (hbase : base ≤ y.heap.size)
    (h : ∀ A' c' y', Own y' base e .u64 A' (n + m) c' (xs ++ ys) → RowKit.Below base y y' → (∀ q, q < y.heap.size → (∀ g, A = some ⟨g, 0, none⟩ → q ≠ g) → y'.heap[q]? = y.heap[q]?) → K (b.put (some d) (.slice A' (n + m) c')) y') : wpOp P ops Q i K b y :=
  wpOp_of_list hi (append_abs2 hgd s x t ho base e .u64 8 ht he A n c xs hs hown B A2 m c2 ys hx hr (n + m) rfl (xs ++ ys) rfl (by omega) (by unfold maxLen; omega) hbase (fun A' c' y' h1 h2 h3 => by rw [hd]; exact h A' c' y' h1 h2 h3))
/-- Blocks of other types are not the slice's. -/
theorem Own.apart {y : World} {base : Nat} {e t : TypeId} {k : IntKind} {A : Option Addr} {n c q : Nat} {xs : List Int} {z : Array Value} (h : Own y base e k A n c xs) (hq : Has y q t z) (hne : t ≠ e) : ∀ g, A = some ⟨g, 0, none⟩ → q ≠ g := by
  rintro g rfl rfl
  rcases h.own.2 with ⟨hv, _⟩ | ⟨g', cap, cur, hv, hg, hh, r⟩
  · injection hv with h1
    cases h1
  · injection hv with h1
    injection h1 with h1
    injection h1 with h1
    subst h1
    have := hq.eq.symm.trans hh
    injection this with this
    injection this with _ this
    exact hne this
def stm (M : Array Bool) (p : Nat) : Array Bool := M.setIfInBounds p true
/-- The variable: made by now or not. -/
def stE (n : Nat) (M : Array Bool) : Option Nat → Array Bool
  | none => M
  | some _ => stm M n
def dnE (d : Nat) (a : Act) : Option Nat → Act
  | none => a
  | some g => a.put (some d) (.pointer (some ⟨g, 0, none⟩))
def kpE (B : Nat) (t : TypeId) (z : Array Value) (y : World) : Option Nat → Prop
  | none => True
  | some g => Has y g t z ∧ B ≤ g
def rdE (n : Nat) (l : List Nat) : Option Nat → List Nat
  | none => l ++ [n]
  | some _ => l
def gE (y : World) : Option Nat → Nat
  | none => y.heap.size
  | some g => g
theorem Own.but {y u : World} {base g : Nat} {e : TypeId} {k : IntKind} {A : Option Addr} {n c : Nat} {xs : List Int} (h : Own y base e k A n c xs) (hg : ∀ q, A = some ⟨q, 0, none⟩ → g ≠ q) (hb : But g y u) : Own u base e k A n c xs := by
  refine ⟨h.own.1, ?_⟩
  rcases h.own.2 with h0 | ⟨q, cap, cur, hv, hq, hh, r⟩
  · exact .inl h0
  · injection hv with hv1 hv2 hv3
    exact .inr ⟨q, cap, cur, by rw [hv1, hv3], hq, (hb.block q (Array.getElem?_eq_some_iff.1 hh).1 (Ne.symm (hg q hv1))).trans hh, r⟩
def fE (f : Nat) : Option Nat → Nat
  | none => f + 1
  | some _ => f
theorem dnE_eval {d k : Nat} {a : Act} (h : d ≠ k) : ∀ E, (dnE d a E).eval (.tmp k) = a.eval (.tmp k)
  | none => rfl
  | some _ => Act.eval_put_ne _ _ _ _ h
theorem dnE_size {d : Nat} {a : Act} : ∀ E, (dnE d a E).tmps.size = a.tmps.size
  | none => rfl
  | some _ => Act.size_put _ _ _
theorem kpE.keep {B : Nat} {t : TypeId} {z : Array Value} {y y' : World} : ∀ {E}, kpE B t z y E → RowKit.Below y.heap.size y y' → kpE B t z y' E
  | none, _, _ => trivial
  | some _, h, hb => ⟨h.1.keep hb, h.2⟩
theorem stage_of {S : World → Prop} {n d6 F : Nat} {t6 : TypeId} {z : Array Value} {l : List Nat} {mask : Option Nat → Array Bool} {act : Option Nat → Act} (hrd : ∀ E, Region.ready md ops (mask E) = rdE n l E) (hne : l ≠ [])
    (hmask : ∀ g, (mask none).setIfInBounds n true = mask (some g)) (hact : ∀ g, (act none).put (some d6) (.pointer (some ⟨g, 0, none⟩)) = act (some g)) (hal : AllocAt P ops n d6 t6 z) (Inv : Option Nat → World → Prop)
    (hB : ∀ E y y', Inv E y → RowKit.Below y.heap.size y y' → Inv E y') (hA : ∀ y, Inv none y → S (y.alloc (.cells z t6)) ∧ Inv (some y.heap.size) (y.alloc (.cells z t6)))
    (core : ∀ E r, r ∈ l → ∀ y, Inv E y → wpOp P ops Q r (fun a' w => S w ∧ wpAnyU P md ops Q S (fE F E) ((mask E).setIfInBounds r true) a' w) (act E) y) : ∀ E y, Inv E y → wpAnyU P md ops Q S (fE (F + 1) E) (mask E) (act E) y := by
  have hs : ∀ g y, Inv (some g) y → wpAnyU P md ops Q S (F + 1) (mask (some g)) (act (some g)) y := fun g y h => ⟨by rw [hrd]; exact hne, fun r hr y' hy => by
    rw [hrd] at hr
    exact core (some g) r hr y' (hB _ _ _ h hy)⟩
  intro E y h
  cases E with
  | some g => exact hs g y h
  | none =>
    refine ⟨by rw [hrd]; simp [rdE], fun r hr y' hy => ?_⟩
    have h' := hB _ _ _ h hy
    rw [hrd] at hr
    rcases List.mem_append.1 hr with hr | hr
    · exact core none r hr y' h'
    · obtain rfl := List.mem_singleton.1 hr
      refine hal.run ⟨(hA y' h').1, ?_⟩
      rw [hmask y'.heap.size, hact]
      exact hs _ _ (hA y' h').2
def appB (md : Region.Mode) (ops : Array Oper) (L : Array Bool) (i j k m n : Nat) : Bool :=
  [none, some 0].all (fun E => let M := stE n L E
    decide (Region.ready md ops M = rdE n [i, k] E) && decide (Region.ready md ops (stm M i) = rdE n [j, k] E) && decide (Region.ready md ops (stm (stm M i) j) = rdE n [k] E) && decide (Region.ready md ops (stm (stm (stm M i) j) k) = rdE n [m] E)
    && decide (Region.ready md ops (stm (stm M i) k) = rdE n [j] E) && decide (Region.ready md ops (stm M k) = rdE n [i] E) && decide (stm (stm M k) i = stm (stm M i) k) && decide (stm (stm (stm M i) k) j = stm (stm (stm M i) j) k))
  && (let M := stm L n; decide (stm (stm L i) n = stm M i) && decide (stm (stm (stm L i) j) n = stm (stm M i) j) && decide (stm (stm (stm (stm L i) j) k) n = stm (stm (stm M i) j) k) && decide (stm (stm (stm L i) k) n = stm (stm M i) k) && decide (stm (stm L k) n = stm M k))
theorem two_apps {L : Array Bool} {f i j k m n : Nat} {oi oj ok om : Oper} {d0 d1 d2 d3 d4 d5 d6 : Nat} {t et t6 : TypeId} {z : Array Value} {A1 : Option Addr} {c1 : Nat} {s o : Int} {a : Act} {x : World} (hB : appB md ops L i j k m n = true)
    (hi : ops[i]? = some oi) (hgi : oi.guard = none) (hdi : oi.dst = some d0) (hoi : oi.op = .buildSlice t 0 #[])
    (hj : ops[j]? = some oj) (hgj : oj.guard = none) (hdj : oj.dst = some d2) (hoj : oj.op = .call { callee := .builtin .append, args := #[.tmp d0, .tmp d1], argTypes := #[t, t] })
    (hk : ops[k]? = some ok) (hgk : ok.guard = none) (hdk : ok.dst = some d4) (hok : ok.op = .buildSlice t 1 #[(0, .tmp d3)])
    (hm : ops[m]? = some om) (hgm : om.guard = none) (hdm : om.dst = some d5) (hom : om.op = .call { callee := .builtin .append, args := #[.tmp d2, .tmp d4], argTypes := #[t, t] })
    (ht : P.underlying t = some (.slice et)) (he : IntElem P et .u64 8) (hal : AllocAt P ops n d6 t6 z) (ht6 : t6 ≠ et)
    (hr0 : ∀ y : World, (Instr.buildSlice t 0 #[]).run P y = .ok (.slice (some ⟨y.heap.size, 0, none⟩) 0 0) (y.alloc (.cells (vals .u64 []) et)))
    (hr1 : ∀ y : World, (Instr.buildSlice t 1 #[(0, .int .u64 o)]).run P y = .ok (.slice (some ⟨y.heap.size, 0, none⟩) 1 1) (y.alloc (.cells (vals .u64 [o]) et)))
    (hne : [d0, d1, d2, d3, d4, d5, d6].Nodup) (hlt : d0 < a.tmps.size ∧ d2 < a.tmps.size ∧ d4 < a.tmps.size)
    (h1 : a.eval (.tmp d1) = .slice A1 1 c1) (hr : Rd x x.heap.size A1 1 .u64 [s]) (h3 : a.eval (.tmp d3) = .int .u64 o)
    (h : ∀ E v0 v2 v4 A c y, kpE x.heap.size t6 z y E → Own y x.heap.size et .u64 A 2 c [s, o] → RowKit.Below x.heap.size x y → x.heap.size ≤ y.heap.size → wpAnyU P md ops Q (fun u => But (gE y E) y u) (fE f E) (stm (stm (stm (stm (stE n L E) i) j) k) m) (((((dnE d6 a E).put (some d0) v0).put (some d2) v2).put (some d4) v4).put (some d5) (.slice A 2 c)) y) :
    wpAnyU P md ops Q (fun u => RowKit.Below x.heap.size x u) (f + 4 + 1) L a x := by
  simp only [appB, List.all_cons, List.all_nil, Bool.and_true, Bool.and_eq_true, decide_eq_true_eq] at hB
  obtain ⟨⟨hN, hS⟩, ⟨⟨⟨⟨m1, m2⟩, m3⟩, m4⟩, m5⟩⟩ := hB
  have hE : ∀ E, (((((((Region.ready md ops (stE n L E) = rdE n [i, k] E ∧ Region.ready md ops (stm (stE n L E) i) = rdE n [j, k] E) ∧ Region.ready md ops (stm (stm (stE n L E) i) j) = rdE n [k] E) ∧ Region.ready md ops (stm (stm (stm (stE n L E) i) j) k) = rdE n [m] E) ∧ Region.ready md ops (stm (stm (stE n L E) i) k) = rdE n [j] E) ∧ Region.ready md ops (stm (stE n L E) k) = rdE n [i] E) ∧ stm (stm (stE n L E) k) i = stm (stm (stE n L E) i) k) ∧ stm (stm (stm (stE n L E) i) k) j = stm (stm (stm (stE n L E) i) j) k) := fun E => by
    cases E
    · exact hN
    · exact hS
  simp only [List.nodup_cons, List.mem_cons, List.not_mem_nil, or_false, not_or, List.nodup_nil, and_true, not_false_eq_true] at hne
  obtain ⟨⟨n01, n02, n03, n04, n05, n06⟩, ⟨n12, n13, n14, n15, n16⟩, ⟨n23, n24, n25, n26⟩, ⟨n34, n35, n36⟩, ⟨n45, n46⟩, n56⟩ := hne
  obtain ⟨l0, l2, l4⟩ := hlt
  have alc : ∀ (y : World) (o : Obj), RowKit.Below y.heap.size y (y.alloc o) := fun y o => (RowKit.Below.refl _ _).alloc (Nat.le_refl _) _
  have al1 : ∀ (y : World) (o : Obj), x.heap.size ≤ y.heap.size → x.heap.size ≤ (y.alloc o).heap.size := fun y o h => by rw [World.size_alloc]; exact Nat.le_succ_of_le h
  have pc : ∀ (b : Act) (p q : Nat) (v u : Value), p ≠ q → (b.put (some p) v).put (some q) u = (b.put (some q) u).put (some p) v := fun b p q v u hpq => Act.put_comm _ _ _ (fun t e1 e2 => by injection e1 with e1; injection e2 with e2; exact hpq (e1.trans e2.symm))
  have eE : ∀ E, (dnE d6 a E).eval (.tmp d1) = .slice A1 1 c1 ∧ (dnE d6 a E).eval (.tmp d3) = .int .u64 o := fun E => ⟨(dnE_eval (Ne.symm n16) E).trans h1, (dnE_eval (Ne.symm n36) E).trans h3⟩
  -- what holds all the time
  let C : World → Prop := fun y => RowKit.Below x.heap.size x y ∧ x.heap.size ≤ y.heap.size
  have cB : ∀ {y y' : World}, C y → RowKit.Below y.heap.size y y' → C y' := fun h hb => ⟨h.1.trans (hb.mono h.2), Nat.le_trans h.2 hb.size⟩
  have cA : ∀ {y : World} (o : Obj), C y → C (y.alloc o) := fun o h => cB h (alc _ o)
  have kA : ∀ {y : World}, C y → kpE x.heap.size t6 z (y.alloc (.cells z t6)) (some y.heap.size) := fun h => ⟨Has.new _ _ _, h.2⟩
  have kK : ∀ {y y' : World} {E : Option Nat} {A : Option Addr} {n c : Nat} {xs : List Int} {b : Nat}, kpE x.heap.size t6 z y E → Own y b et .u64 A n c xs → (∀ q, q < y.heap.size → (∀ g, A = some ⟨g, 0, none⟩ → q ≠ g) → y'.heap[q]? = y.heap[q]?) → kpE x.heap.size t6 z y' E := fun {y y' E A n c xs b} h ho hq => by
    cases E with
    | none => trivial
    | some g => exact ⟨⟨(hq g h.1.lt (ho.apart h.1 ht6)).trans h.1.eq⟩, h.2⟩
  -- the second append
  have fin : ∀ (v0 : Value) (A2 : Option Addr) (c2 g : Nat) (E : Option Nat) (y : World), (Own y x.heap.size et .u64 A2 1 c2 [s] ∧ Has y g et (vals .u64 [o]) ∧ kpE x.heap.size t6 z y E ∧ C y) →
      wpAnyU P md ops Q (fun u => RowKit.Below x.heap.size x u) (fE (f + 1) E) (stm (stm (stm (stE n L E) i) j) k) ((((dnE d6 a E).put (some d0) v0).put (some d2) (.slice A2 1 c2)).put (some d4) (.slice (some ⟨g, 0, none⟩) 1 1)) y := by
    intro v0 A2 c2 g
    refine stage_of (l := [m]) (n := n) (d6 := d6) (mask := fun E => stm (stm (stm (stE n L E) i) j) k) (act := fun E => (((dnE d6 a E).put (some d0) v0).put (some d2) (.slice A2 1 c2)).put (some d4) (.slice (some ⟨g, 0, none⟩) 1 1)) (fun E => (hE E).1.1.1.1.2) (by simp) (fun _ => m3) (fun g' => ?_) hal
      (fun E y => Own y x.heap.size et .u64 A2 1 c2 [s] ∧ Has y g et (vals .u64 [o]) ∧ kpE x.heap.size t6 z y E ∧ C y) (fun E y y' hh hy => ⟨hh.1.keep hy, hh.2.1.keep hy, hh.2.2.1.keep hy, cB hh.2.2.2 hy⟩) (fun y hh => ⟨(cA _ hh.2.2.2).1, hh.1.keep (alc _ _), hh.2.1.keep (alc _ _), kA hh.2.2.2, cA _ hh.2.2.2⟩) (fun E r hr y hh => ?_)
    · dsimp only [dnE]
      rw [pc _ d4 d6 _ _ n46, pc _ d2 d6 _ _ n26, pc _ d0 d6 _ _ n06]
    · obtain rfl := List.mem_singleton.1 hr
      obtain ⟨ho, hg, hkp, hc⟩ := hh
      refine app_run hm hgm hom hdm x.heap.size ht he (A := A2) (n := 1) (c := c2) (xs := [s]) (by rw [Act.eval_put_ne _ _ _ _ (Ne.symm n24), Act.eval_put_same _ _ _ (by rw [Act.size_put, dnE_size]; exact l2)]) ho (B := y.heap.size) (A2 := some ⟨g, 0, none⟩) (m := 1) (c2 := 1) (ys := [o]) (by rw [Act.eval_put_same _ _ _ (by rw [Act.size_put, Act.size_put, dnE_size]; exact l4)]) (Rd.of_has hg hg.lt rfl (by simp)) (by omega) hc.2 (fun A' c' y2 g1 g2 g3 => ?_)
      have hb2 := hc.1.trans g2
      have hs2 := Nat.le_trans hc.2 g2.size
      have hk2 := kK hkp ho g3
      have hge : x.heap.size ≤ gE y2 E := by
        cases E with
        | none => exact hs2
        | some g => exact hk2.2
      exact ⟨hb2, wpAnyU_weaken (fun u hu => hb2.trans (hu.below hge hs2)) (h E v0 _ _ A' c' y2 hk2 g1 hb2 hs2)⟩
  -- the first append is done
  have pk : ∀ (v0 : Value) (A2 : Option Addr) (c2 : Nat) (E : Option Nat) (y : World), (Own y x.heap.size et .u64 A2 1 c2 [s] ∧ kpE x.heap.size t6 z y E ∧ C y) →
      wpAnyU P md ops Q (fun u => RowKit.Below x.heap.size x u) (fE (f + 2) E) (stm (stm (stE n L E) i) j) (((dnE d6 a E).put (some d0) v0).put (some d2) (.slice A2 1 c2)) y := by
    intro v0 A2 c2
    refine stage_of (l := [k]) (n := n) (d6 := d6) (mask := fun E => stm (stm (stE n L E) i) j) (act := fun E => ((dnE d6 a E).put (some d0) v0).put (some d2) (.slice A2 1 c2)) (fun E => (hE E).1.1.1.1.1.2) (by simp) (fun _ => m2) (fun g' => ?_) hal
      (fun E y => Own y x.heap.size et .u64 A2 1 c2 [s] ∧ kpE x.heap.size t6 z y E ∧ C y) (fun E y y' hh hy => ⟨hh.1.keep hy, hh.2.1.keep hy, cB hh.2.2 hy⟩) (fun y hh => ⟨(cA _ hh.2.2).1, hh.1.keep (alc _ _), kA hh.2.2, cA _ hh.2.2⟩) (fun E r hr y hh => ?_)
    · dsimp only [dnE]
      rw [pc _ d2 d6 _ _ n26, pc _ d0 d6 _ _ n06]
    · obtain rfl := List.mem_singleton.1 hr
      obtain ⟨ho, hkp, hc⟩ := hh
      refine slice_run (S' := fun _ => True) hk hgk hdk hok (cs := vals .u64 [o]) (et := et) ?_ ⟨(cA _ hc).1, ?_⟩
      · have : (((dnE d6 a E).put (some d0) v0).put (some d2) (.slice A2 1 c2)).eval (.tmp d3) = .int .u64 o := by rw [Act.eval_put_ne _ _ _ _ n23, Act.eval_put_ne _ _ _ _ n03, (eE E).2]
        simp only [List.map_toArray, List.map_cons, List.map_nil, this]
        exact hr1 y
      · exact fin v0 A2 c2 _ E _ ⟨ho.keep (alc _ _), Has.new _ _ _, hkp.keep (alc _ _), cA _ hc⟩
  -- both slices are there, nothing is appended yet
  have pj : ∀ (g0 g : Nat) (hgg : g ≠ g0) (hg0 : x.heap.size ≤ g0) (E : Option Nat) (y : World), (Has y g0 et (vals .u64 []) ∧ Has y g et (vals .u64 [o]) ∧ kpE x.heap.size t6 z y E ∧ C y) →
      wpAnyU P md ops Q (fun u => RowKit.Below x.heap.size x u) (fE (f + 2) E) (stm (stm (stE n L E) i) k) (((dnE d6 a E).put (some d0) (.slice (some ⟨g0, 0, none⟩) 0 0)).put (some d4) (.slice (some ⟨g, 0, none⟩) 1 1)) y := by
    intro g0 g hgg hg0
    refine stage_of (l := [j]) (n := n) (d6 := d6) (mask := fun E => stm (stm (stE n L E) i) k) (act := fun E => ((dnE d6 a E).put (some d0) (.slice (some ⟨g0, 0, none⟩) 0 0)).put (some d4) (.slice (some ⟨g, 0, none⟩) 1 1)) (fun E => (hE E).1.1.1.2) (by simp) (fun _ => m4) (fun g' => ?_) hal
      (fun E y => Has y g0 et (vals .u64 []) ∧ Has y g et (vals .u64 [o]) ∧ kpE x.heap.size t6 z y E ∧ C y) (fun E y y' hh hy => ⟨hh.1.keep hy, hh.2.1.keep hy, hh.2.2.1.keep hy, cB hh.2.2.2 hy⟩) (fun y hh => ⟨(cA _ hh.2.2.2).1, hh.1.keep (alc _ _), hh.2.1.keep (alc _ _), kA hh.2.2.2, cA _ hh.2.2.2⟩) (fun E r hr' y hh => ?_)
    · dsimp only [dnE]
      rw [pc _ d4 d6 _ _ n46, pc _ d0 d6 _ _ n06]
    · obtain rfl := List.mem_singleton.1 hr'
      obtain ⟨h0, hg, hkp, hc⟩ := hh
      have ho : Own y x.heap.size et .u64 (some ⟨g0, 0, none⟩) 0 0 [] := Own.of_has h0 hg0 (Nat.zero_le _)
      refine app_run hj hgj hoj hdj x.heap.size ht he (A := some ⟨g0, 0, none⟩) (n := 0) (c := 0) (xs := []) (by rw [Act.eval_put_ne _ _ _ _ (Ne.symm n04), Act.eval_put_same _ _ _ (by rw [dnE_size]; exact l0)]) ho (B := x.heap.size) (A2 := A1) (m := 1) (c2 := c1) (ys := [s]) (by rw [Act.eval_put_ne _ _ _ _ (Ne.symm n14), Act.eval_put_ne _ _ _ _ n01, (eE E).1]) (hr.keep hc.1 (Nat.le_refl _)) (by omega) hc.2 (fun A' c' y2 g1 g2 g3 => ?_)
      have hc2 : C y2 := ⟨hc.1.trans g2, Nat.le_trans hc.2 g2.size⟩
      have hg2 : Has y2 g et (vals .u64 [o]) := ⟨(g3 g hg.lt (fun q hq => by injection hq with hq; injection hq with hq _ _; rw [← hq]; exact hgg)).trans hg.eq⟩
      refine ⟨hc2.1, ?_⟩
      rw [pc _ d4 d2 _ _ (Ne.symm n24)]
      have e2' : (stm (stm (stE n L E) i) k).setIfInBounds r true = stm (stm (stm (stE n L E) i) r) k := (hE E).2
      rw [e2']
      exact fin _ A' c' g E y2 ⟨g1, hg2, kK hkp ho g3, hc2⟩
  -- the first slice is there
  have pi : ∀ (g0 : Nat) (hg0 : x.heap.size ≤ g0) (E : Option Nat) (y : World), (Has y g0 et (vals .u64 []) ∧ kpE x.heap.size t6 z y E ∧ C y) →
      wpAnyU P md ops Q (fun u => RowKit.Below x.heap.size x u) (fE (f + 3) E) (stm (stE n L E) i) ((dnE d6 a E).put (some d0) (.slice (some ⟨g0, 0, none⟩) 0 0)) y := by
    intro g0 hg0
    refine stage_of (l := [j, k]) (n := n) (d6 := d6) (mask := fun E => stm (stE n L E) i) (act := fun E => (dnE d6 a E).put (some d0) (.slice (some ⟨g0, 0, none⟩) 0 0)) (fun E => (hE E).1.1.1.1.1.1.2) (by simp) (fun _ => m1) (fun g' => ?_) hal
      (fun E y => Has y g0 et (vals .u64 []) ∧ kpE x.heap.size t6 z y E ∧ C y) (fun E y y' hh hy => ⟨hh.1.keep hy, hh.2.1.keep hy, cB hh.2.2 hy⟩) (fun y hh => ⟨(cA _ hh.2.2).1, hh.1.keep (alc _ _), kA hh.2.2, cA _ hh.2.2⟩) (fun E r hr' y hh => ?_)
    · dsimp only [dnE]
      rw [pc _ d0 d6 _ _ n06]
    · obtain ⟨h0, hkp, hc⟩ := hh
      have hq0 : r = j ∨ r = k := by simpa using hr'
      rcases hq0 with rfl | rfl
      · have ho : Own y x.heap.size et .u64 (some ⟨g0, 0, none⟩) 0 0 [] := Own.of_has h0 hg0 (Nat.zero_le _)
        refine app_run hj hgj hoj hdj x.heap.size ht he (A := some ⟨g0, 0, none⟩) (n := 0) (c := 0) (xs := []) (by rw [Act.eval_put_same _ _ _ (by rw [dnE_size]; exact l0)]) ho (B := x.heap.size) (A2 := A1) (m := 1) (c2 := c1) (ys := [s]) (by rw [Act.eval_put_ne _ _ _ _ n01, (eE E).1]) (hr.keep hc.1 (Nat.le_refl _)) (by omega) hc.2 (fun A' c' y2 g1 g2 g3 => ?_)
        have hc2 : C y2 := ⟨hc.1.trans g2, Nat.le_trans hc.2 g2.size⟩
        exact ⟨hc2.1, pk _ A' c' E y2 ⟨g1, kK hkp ho g3, hc2⟩⟩
      · refine slice_run (S' := fun _ => True) hk hgk hdk hok (cs := vals .u64 [o]) (et := et) ?_ ⟨(cA _ hc).1, ?_⟩
        · have : ((dnE d6 a E).put (some d0) (.slice (some ⟨g0, 0, none⟩) 0 0)).eval (.tmp d3) = .int .u64 o := by rw [Act.eval_put_ne _ _ _ _ n03, (eE E).2]
          simp only [List.map_toArray, List.map_cons, List.map_nil, this]
          exact hr1 y
        · exact pj g0 y.heap.size (Nat.ne_of_gt h0.lt) hg0 E _ ⟨h0.keep (alc _ _), Has.new _ _ _, hkp.keep (alc _ _), cA _ hc⟩
  -- the second slice is there
  have pki : ∀ (g : Nat) (E : Option Nat) (y : World), (Has y g et (vals .u64 [o]) ∧ kpE x.heap.size t6 z y E ∧ C y) →
      wpAnyU P md ops Q (fun u => RowKit.Below x.heap.size x u) (fE (f + 3) E) (stm (stE n L E) k) ((dnE d6 a E).put (some d4) (.slice (some ⟨g, 0, none⟩) 1 1)) y := by
    intro g
    refine stage_of (l := [i]) (n := n) (d6 := d6) (mask := fun E => stm (stE n L E) k) (act := fun E => (dnE d6 a E).put (some d4) (.slice (some ⟨g, 0, none⟩) 1 1)) (fun E => (hE E).1.1.2) (by simp) (fun _ => m5) (fun g' => ?_) hal
      (fun E y => Has y g et (vals .u64 [o]) ∧ kpE x.heap.size t6 z y E ∧ C y) (fun E y y' hh hy => ⟨hh.1.keep hy, hh.2.1.keep hy, cB hh.2.2 hy⟩) (fun y hh => ⟨(cA _ hh.2.2).1, hh.1.keep (alc _ _), kA hh.2.2, cA _ hh.2.2⟩) (fun E r hr' y hh => ?_)
    · dsimp only [dnE]
      rw [pc _ d4 d6 _ _ n46]
    · obtain rfl := List.mem_singleton.1 hr'
      obtain ⟨hg, hkp, hc⟩ := hh
      refine slice_run (S' := fun _ => True) hi hgi hdi hoi (cs := vals .u64 []) (et := et) (by rw [List.map_toArray, List.map_nil]; exact hr0 y) ⟨(cA _ hc).1, ?_⟩
      rw [pc _ d4 d0 _ _ (Ne.symm n04)]
      have e1' : (stm (stE n L E) k).setIfInBounds r true = stm (stm (stE n L E) r) k := (hE E).1.2
      rw [e1']
      exact pj y.heap.size g (Nat.ne_of_lt hg.lt) hc.2 E _ ⟨Has.new _ _ _, hg.keep (alc _ _), hkp.keep (alc _ _), cA _ hc⟩
  refine stage_of (F := f + 3) (l := [i, k]) (n := n) (d6 := d6) (mask := fun E => stE n L E) (act := fun E => dnE d6 a E) (fun E => (hE E).1.1.1.1.1.1.1) (by simp) (fun _ => rfl) (fun g' => rfl) hal
      (fun E y => kpE x.heap.size t6 z y E ∧ C y) (fun E y y' hh hy => ⟨hh.1.keep hy, cB hh.2 hy⟩) (fun y hh => ⟨(cA _ hh.2).1, kA hh.2, cA _ hh.2⟩) (fun E r hr' y hh => ?_) none x ⟨trivial, RowKit.Below.refl _ _, Nat.le_refl _⟩
  obtain ⟨hkp, hc⟩ := hh
  have hq0 : r = i ∨ r = k := by simpa using hr'
  rcases hq0 with rfl | rfl
  · refine slice_run (S' := fun _ => True) hi hgi hdi hoi (cs := vals .u64 []) (et := et) (by rw [List.map_toArray, List.map_nil]; exact hr0 y) ⟨(cA _ hc).1, ?_⟩
    exact pi y.heap.size hc.2 E _ ⟨Has.new _ _ _, hkp.keep (alc _ _), cA _ hc⟩
  · refine slice_run (S' := fun _ => True) hk hgk hdk hok (cs := vals .u64 [o]) (et := et) ?_ ⟨(cA _ hc).1, ?_⟩
    · simp only [List.map_toArray, List.map_cons, List.map_nil, (eE E).2]
      exact hr1 y
    · exact pki y.heap.size E _ ⟨Has.new _ _ _, hkp.keep (alc _ _), cA _ hc⟩
theorem takeE {S : World → Prop} (hS : ∀ w w', S w → RowKit.Below w.heap.size w w' → S w') {i : Nat} {oi : Oper} {v : Value} {f : Nat} {listed : Array Bool} {a : Act} {w : World} (E : Option Nat) (hi : ops[i]? = some oi)
    (hs : Region.noSelect ops = true) (hf : Region.free md ops listed i = true) (hr : (Region.ready md ops listed).contains i = true)
    (hQ : ∀ c a d v w, Q (.panic c) (Act.put a d v) w → Q (.panic c) a w) (hw : S w) (hy : Steady P ops S oi v a)
    (h : wpAnyU P md ops Q S (fE f E) (listed.setIfInBounds i true) (a.put oi.dst v) w) : wpAnyU P md ops Q S (fE (f + 1) E) listed a w := by
  cases E with
  | none => exact wpAnyU_take hS (f := f + 1) hi hs hf hr hQ hw hy h
  | some _ => exact wpAnyU_take hS (f := f) hi hs hf hr hQ hw hy h
theorem wpAnyU_alloc {S : World → Prop} {n d6 f : Nat} {t6 : TypeId} {z : Array Value} {L : Array Bool} {a : Act} {y : World} (hr : Region.ready md ops L = [n]) (hal : AllocAt P ops n d6 t6 z)
    (h : ∀ y', RowKit.Below y.heap.size y y' → S (y'.alloc (.cells z t6)) ∧ wpAnyU P md ops Q S f (L.setIfInBounds n true) (a.put (some d6) (.pointer (some ⟨y'.heap.size, 0, none⟩))) (y'.alloc (.cells z t6))) : wpAnyU P md ops Q S (f + 1) L a y :=
  ⟨by rw [hr]; simp, fun r hr' y' hy => by
    rw [hr] at hr'
    obtain rfl := List.mem_singleton.1 hr'
    exact hal.run (h y' hy)⟩
theorem then_store {S : World → Prop} {i f : Nat} {o : Oper} {L : Array Bool} {a : Act} {w : World} (hi : ops[i]? = some o) (hr : Region.ready md ops L = [i]) (hgd : o.guard = none) {ty : TypeId} {p q : Operand} (ho : o.op = .store ty p q)
    (hd : o.dst = none) {g n : Nat} {cells : Array Value} (hx : a.eval p = .pointer (some ⟨g, 0, none⟩)) (hy : a.eval q = .agg cells) [hA : Agg P ty n] [hC : Cz n cells]
    {t : TypeId} {old : Array Value} (hg : Has w g t old) (hold : old.size = n) (h : ∀ w', Has w' g t cells → But g w w' → S w' ∧ wpAnyU P md ops Q S f (L.setIfInBounds i true) a w') : wpAnyU P md ops Q S (f + 1) L a w := by
  refine wpAnyU_run hi hr (fun w1 hq => ?_)
  have hg1 : Has w1 g t old := hg.keep hq
  have hb1 : But g w w1 := But.of hq g
  refine wpList_store_rowTo hgd ty p q ho hd g cells hx hy t old hg1.eq (by rw [hC.sz]; exact hA.inf) (by rw [hold, hC.sz]) hC.one ?_
  have hH : Has (w1.setRow g cells) g t cells := hg1.row cells
  have hB : But g w (w1.setRow g cells) := ⟨hb1.os, hb1.tape, hb1.output, by simpa using hb1.size, fun k hk hne => (setRow_other w1 g k cells hne).trans (hb1.block k hk hne)⟩
  exact h _ hH hB
theorem end_take {S : World → Prop} (hS : ∀ w w', S w → RowKit.Below w.heap.size w w' → S w') {i : Nat} {oi : Oper} {v : Value} {listed : Array Bool} {a : Act} {w : World} (hi : ops[i]? = some oi)
    (hs : Region.noSelect ops = true) (hf : Region.free md ops listed i = true) (hr : (Region.ready md ops listed).contains i = true) (he : Region.ready md ops (listed.setIfInBounds i true) = [])
    (hQ : ∀ c a d v w, Q (.panic c) (Act.put a d v) w → Q (.panic c) a w) (hw : S w) (hy : Steady P ops S oi v a)
    (h : ∀ w', RowKit.Below w.heap.size w w' → Q .normal (a.put oi.dst v) w') : wpAnyU P md ops Q S 1 listed a w :=
  wpAnyU_take hS (f := 0) hi hs hf hr hQ hw hy (wpAnyU_end he h)
end
end Go.Proofs.YtajiinecicghkaaDoor.Reg
