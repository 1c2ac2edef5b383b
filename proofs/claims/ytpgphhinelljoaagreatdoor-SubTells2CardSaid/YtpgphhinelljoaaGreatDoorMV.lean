/-
  Own text. A region that draws its order: a slice written out, a slice appended to it, another slice written out, appended; a variable made at any time. Speaks of no program.
-/
import Derived.Test.YtpgphhinelljoaaGreatDoorMRegT
import Derived.Test.YtpgphhinelljoaaGreatDoorMReg
import Derived.Great.Frames
import Derived.Test.YtpgphhinelljoaaGreatDoorSxR
namespace Go.Proofs.YtpgphhinelljoaaGreatDoor.Reg
set_option linter.unusedVariables false
set_option linter.unusedSimpArgs false
open Go Go.RowKit Go.Proofs.YtpgphhinelljoaaGreatDoor.Base
section
variable {P : Program} {ops : Array Oper} {md : Region.Mode} {Q : Exit → Act → World → Prop}
/-- Blocks of other types are not the slice's. -/
theorem Own.apart {y : World} {base : Nat} {e t : TypeId} {k : IntKind} {A : Option Addr} {n c q : Nat} {xs : List Int} {z : Array Value} (h : Own y base e k A n c xs) (hq : Has y q t z) (hne : t ≠ e) : ∀ g, A = some ⟨g, 0, none⟩ → q ≠ g := by
  rintro g rfl rfl
  rcases h.own.2 with ⟨hv, _⟩ | ⟨g', cap, cur, hv, hg, hh, r⟩
  · injection hv with h1
    cases h1
  · injection hv with h1
    injection h1 with h1
    injection h1 with h1
    subst h1
    have := hq.eq.symm.trans hh
    injection this with this
    injection this with _ this
    exact hne this
def stm (M : Array Bool) (p : Nat) : Array Bool := M.setIfInBounds p true
/-- The variable: made by now or not. -/
def stE (n : Nat) (M : Array Bool) : Option Nat → Array Bool
  | none => M
  | some _ => stm M n
def dnE (d : Nat) (a : Act) : Option Nat → Act
  | none => a
  | some g => a.put (some d) (.pointer (some ⟨g, 0, none⟩))
def kpE (B : Nat) (t : TypeId) (z : Array Value) (y : World) : Option Nat → Prop
  | none => True
  | some g => Has y g t z ∧ B ≤ g
def rdE (n : Nat) (l : List Nat) : Option Nat → List Nat
  | none => l ++ [n]
  | some _ => l
def gE (y : World) : Option Nat → Nat
  | none => y.heap.size
  | some g => g
theorem Own.but {y u : World} {base g : Nat} {e : TypeId} {k : IntKind} {A : Option Addr} {n c : Nat} {xs : List Int} (h : Own y base e k A n c xs) (hg : ∀ q, A = some ⟨q, 0, none⟩ → g ≠ q) (hb : But g y u) : Own u base e k A n c xs := by
  refine ⟨h.own.1, ?_⟩
  rcases h.own.2 with h0 | ⟨q, cap, cur, hv, hq, hh, r⟩
  · exact .inl h0
  · injection hv with hv1 hv2 hv3
    exact .inr ⟨q, cap, cur, by rw [hv1, hv3], hq, (hb.block q (Array.getElem?_eq_some_iff.1 hh).1 (Ne.symm (hg q hv1))).trans hh, r⟩
def fE (f : Nat) : Option Nat → Nat
  | none => f + 1
  | some _ => f
theorem kpE.keep {B : Nat} {t : TypeId} {z : Array Value} {y y' : World} : ∀ {E}, kpE B t z y E → RowKit.Below y.heap.size y y' → kpE B t z y' E
  | none, _, _ => trivial
  | some _, h, hb => ⟨h.1.keep hb, h.2⟩
def appB (md : Region.Mode) (ops : Array Oper) (L : Array Bool) (i j k m n : Nat) : Bool :=
  [none, some 0].all (fun E => let M := stE n L E
    decide (Region.ready md ops M = rdE n [i, k] E) && decide (Region.ready md ops (stm M i) = rdE n [j, k] E) && decide (Region.ready md ops (stm (stm M i) j) = rdE n [k] E) && decide (Region.ready md ops (stm (stm (stm M i) j) k) = rdE n [m] E)
    && decide (Region.ready md ops (stm (stm M i) k) = rdE n [j] E) && decide (Region.ready md ops (stm M k) = rdE n [i] E) && decide (stm (stm M k) i = stm (stm M i) k) && decide (stm (stm (stm M i) k) j = stm (stm (stm M i) j) k))
  && (let M := stm L n; decide (stm (stm L i) n = stm M i) && decide (stm (stm (stm L i) j) n = stm (stm M i) j) && decide (stm (stm (stm (stm L i) j) k) n = stm (stm (stm M i) j) k) && decide (stm (stm (stm L i) k) n = stm (stm M i) k) && decide (stm (stm L k) n = stm M k))
theorem then_store {S : World → Prop} {i f : Nat} {o : Oper} {L : Array Bool} {a : Act} {w : World} (hi : ops[i]? = some o) (hr : Region.ready md ops L = [i]) (hgd : o.guard = none) {ty : TypeId} {p q : Operand} (ho : o.op = .store ty p q)
    (hd : o.dst = none) {g n : Nat} {cells : Array Value} (hx : a.eval p = .pointer (some ⟨g, 0, none⟩)) (hy : a.eval q = .agg cells) [hA : Agg P ty n] [hC : Cz n cells]
    {t : TypeId} {old : Array Value} (hg : Has w g t old) (hold : old.size = n) (h : ∀ w', Has w' g t cells → But g w w' → S w' ∧ wpAnyU P md ops Q S f (L.setIfInBounds i true) a w') : wpAnyU P md ops Q S (f + 1) L a w := by
  refine wpAnyU_run hi hr (fun w1 hq => ?_)
  have hg1 : Has w1 g t old := hg.keep hq
  have hb1 : But g w w1 := But.of hq g
  refine wpList_store_rowTo hgd ty p q ho hd g cells hx hy t old hg1.eq (by rw [hC.sz]; exact hA.inf) (by rw [hold, hC.sz]) hC.one ?_
  have hH : Has (w1.setRow g cells) g t cells := hg1.row cells
  have hB : But g w (w1.setRow g cells) := ⟨hb1.os, hb1.tape, hb1.output, by simpa using hb1.size, fun k hk hne => (setRow_other w1 g k cells hne).trans (hb1.block k hk hne)⟩
  exact h _ hH hB
theorem end_take {S : World → Prop} (hS : ∀ w w', S w → RowKit.Below w.heap.size w w' → S w') {i : Nat} {oi : Oper} {v : Value} {listed : Array Bool} {a : Act} {w : World} (hi : ops[i]? = some oi)
    (hs : Region.noSelect ops = true) (hf : Region.free md ops listed i = true) (hr : (Region.ready md ops listed).contains i = true) (he : Region.ready md ops (listed.setIfInBounds i true) = [])
    (hQ : ∀ c a d v w, Q (.panic c) (Act.put a d v) w → Q (.panic c) a w) (hw : S w) (hy : Steady P ops S oi v a)
    (h : ∀ w', RowKit.Below w.heap.size w w' → Q .normal (a.put oi.dst v) w') : wpAnyU P md ops Q S 1 listed a w :=
  wpAnyU_take hS (f := 0) hi hs hf hr hQ hw hy (wpAnyU_end he h)
end
end Go.Proofs.YtpgphhinelljoaaGreatDoor.Reg

/-
  Own text. The rest of a drawn region, from some operations on, and what follows it, by the reckoner. Speaks of no program.
-/
namespace Go.Proofs.YtpgphhinelljoaaGreatDoor.SxV
set_option linter.unusedVariables false
set_option linter.unusedSimpArgs false
open Go Go.RowKit Go.Proofs.YtpgphhinelljoaaGreatDoor.Reg Go.Proofs.YtpgphhinelljoaaGreatDoor.Base Go.Proofs.YtpgphhinelljoaaGreatDoor.Sx Go.Proofs.YtpgphhinelljoaaGreatDoor.SxR
/-- A region's operations. -/
def rg : Code → List Oper
  | .seq (.region _ o _) _ => o.toList
  | _ => []
def L6 (ops : Array Oper) : Array Bool := stm (stm (stm (stm (stm (stm (Array.replicate ops.size false) 1) 3) 0) 2) 4) 5
def evalX (P : Program) (C : Cx) (m N : Nat) (ops : Array Oper) (L : Array Bool) (f : Nat) (R : Code) (rs : List ResultVar) (sl : List AV) (bs : List Bk) (q : List Bool) : Option (List AV × List Ob) :=
  match ex P C m ops f L sl bs with
  | some (outs, o1) => match bindO (evalC P C m N R) (outs.map fun x => (x.1, x.2, q, Ek.nrm)) with
    | some (l, o2) => match resL P rs l with
      | some vs => some (vs, o1 ++ o2)
      | none => none
    | none => none
  | none => none
section
variable {P : Program} {C : Cx} {G : World → Prop} {m N f S : Nat} {fn : Func} {R : Code} {ops : Array Oper} {L : Array Bool} {sl : List AV} {bs : List Bk} {q : List Bool} {gs : List Nat} {a : Act} {w y : World} {obs : List Ob} {vs : List AV} {Q : Ending → World → Prop}
theorem post_panic (K : Act → World → Prop) : ∀ c a d v w, Exit.then K (bodyPost P fn Q) (.panic c) (Act.put a d v) w → Exit.then K (bodyPost P fn Q) (.panic c) a w := fun c a d v w h => by
  show bodyPost P fn Q (.panic c) a w
  have h : bodyPost P fn Q (.panic c) (Act.put a d v) w := h
  simp only [bodyPost] at h ⊢
  refine ⟨?_, h.2⟩
  have := h.1
  cases d <;> exact this
theorem rest_any (hC : CxB P C G) (hH0 : C.H = []) (hG : ∀ u, RowKit.Below S w u → G u) (hsel : Region.noSelect ops = true) (hsane : sane C ops = true)
    (he : evalX P C m N ops L f R fn.results.toList sl bs q = some (vs, obs)) (hH : Holds obs) (h : Sl gs sl a) (ho : SOk gs.length sl) (hm : m ≤ gs.length) (H : Wd S w m gs bs y) (hd : a.defers = [])
    (hQ : ∀ v ∈ vs, ∀ x', RowKit.Below S w x' → ∀ gs' : List Nat, Q (.returned (v.den gs')) x') : wpAnyU P .any ops (Exit.then (fun a x => R.wp P (bodyPost P fn Q) a x) (bodyPost P fn Q)) (fun z => Sst S w ops gs sl bs z ∧ S ≤ z.heap.size) f L a y := by
  unfold evalX at he
  split at he
  · rename_i outs o1 h1
    split at he
    · rename_i l o2 h2
      split at he
      · rename_i vs' hr
        injection he with he
        injection he with e1 e2
        subst e1 e2
        obtain ⟨ha, hb⟩ := holds_app hH
        refine ex_ok hC hG (post_panic _) hsel hsane h1 h ho hm H ha (fun sl2 bs2 gs' a' x' hx p1 p2 p3 p4 p5 => ?_)
        obtain ⟨l1, o3, r1, r2, r3⟩ := bindO_ok h2 hb sl2 bs2 q .nrm (List.mem_map.2 ⟨(sl2, bs2), hx, rfl⟩)
        refine (code_ok (S := S) (w := w) hC hG R (fun id c' f hc => by rw [hH0, hooked_nil] at hc; cases hc)).go (fun c a d v w h => ?_) r1 p1 p2 p3 p5 r2 (fun sl3 bs3 q3 e hx3 gs3 a3 x3 s1 s2 s3 s4 s5 => ?_)
        · simp only [bodyPost] at h ⊢
          refine ⟨?_, h.2⟩
          have := h.1
          cases d <;> exact this
        · obtain ⟨hx1, v', hv', hra⟩ := resL_ok hr sl3 bs3 q3 e (r3 _ hx3)
          obtain ⟨t1, t2, t3⟩ := resA_ok s1 s2 s5 hra
          have hd3 := s4.trans (p4.trans hd)
          cases e with
          | nrm => exact ⟨hd3, _, t3, hQ v' hv' x3 s5.bel gs3⟩
          | ret => exact ⟨hd3, _, t3, hQ v' hv' x3 s5.bel gs3⟩
          | ext i => exact (hx1 i rfl).elim
      · cases he
    · cases he
  · cases he
theorem st_move {S : World → Prop} {o : Oper} {p : Operand} {v : Value} (hg : o.guard = none) (ho : o.op = .move p) (h : a.eval p = v) : Steady P ops S o v a := by
  subst h
  exact Steady.of_yields (.inl ⟨by simp [Region.wanted, hg], fun w => by simp [execOp, ho]⟩)
theorem st_assign {S : World → Prop} {o : Oper} {p : Operand} {v : Value} (hg : o.guard = none) (ho : o.op = .assign p) (h : a.eval p = v) : Steady P ops S o v a := by
  subst h
  exact Steady.of_yields (.inl ⟨by simp [Region.wanted, hg], fun w => by simp [execOp, ho]⟩)
theorem st_extract {S : World → Prop} {o : Oper} {p : Operand} {vs : Array Value} {i : Nat} {v : Value} (hg : o.guard = none) (ho : o.op = .extract p i) (h : a.eval p = .tuple vs) (hv : vs[i]? = some v) : Steady P ops S o v a :=
  Steady.of_yields (.inl ⟨by simp [Region.wanted, hg], fun w => by simp [execOp, ho, h, Instr.extract, hv]⟩)
theorem st_load {S : World → Prop} {o : Oper} {p : Operand} {g ty t n : Nat} {cs : Array Value} (hh : ∀ u, S u → Has u g t cs) (hg : o.guard = none) (ho : o.op = .load ty p) (hx : a.eval p = .pointer (some ⟨g, 0, none⟩)) [hA : Agg P ty n] [hC : Cz n cs] : Steady P ops S o (.agg cs) a := by
  obtain ⟨d, hu, hd⟩ := hA.und
  refine .inl ⟨by simp [Region.wanted, hg], fun w1 hw => ?_⟩
  have hr := run_loadVar_row w1 g t ty cs (0, 0) d (hh w1 hw).eq hu (by cases d <;> first | rfl | (simp [aggD] at hd)) (by rw [hC.sz]; exact hA.inf)
  unfold Oper.quietAt execOp
  simp only [ho, hx, Instr.loadAt, Instr.sureAddr, Sem.run_bind, Sem.run_pure, Result.andThen_ok, hr]
  exact ⟨rfl, rfl⟩
theorem st_call {S : World → Prop} {o : Oper} {F : FuncId} {p q : Operand} {T : Array TypeId} {u1 u2 v : Value} (hg : o.guard = none) (ho : o.op = .call { callee := .value (.func F), args := #[p, q], argTypes := T }) (hp : a.eval p = u1) (hq : a.eval q = u2)
    (he : ∀ args w, (callFunc F args).run P w = .ok (.enter F args) w) (hc : ∀ u, S u → Calls P F #[u1, u2] u fun e z => e = .returned v ∧ RowKit.Below u.heap.size u z) : Steady P ops S o v a := by
  refine .inl ⟨by simp [Region.wanted, hg], fun u hu => ?_⟩
  unfold Oper.quietAt execOp
  have := hc u hu
  simp [ho, resolve, hg, show a.eval (.func F) = .func (.func F) #[] #[] from rfl, Deferred.ofValue, hp, hq, invoke, he, Oper.quietUpon]
  exact this
theorem put_ne {d k : Nat} {v : Value} (h : d ≠ k) : (a.put (some d) v).tmps[k]? = a.tmps[k]? := Array.getElem?_setIfInBounds_ne h
theorem put_eq {d : Nat} {v : Value} (h : d < a.tmps.size) : (a.put (some d) v).tmps[d]? = some v := by
  show (a.tmps.setIfInBounds d v)[d]? = some v
  rw [Array.getElem?_setIfInBounds_self]
  simp [h]
theorem put_defers {d : Nat} {v : Value} : (a.put (some d) v).defers = a.defers := rfl
theorem eval_of {k : Nat} {v : Value} (h : a.tmps[k]? = some v) : a.eval (.tmp k) = v := by
  show a.tmps.getD k undef = v
  simp [Array.getD_eq_getD_getElem?, h]
end
end Go.Proofs.YtpgphhinelljoaaGreatDoor.SxV

/-
  Own text. In a drawn region: a call whose answer is not known ahead (a slice of its own memory). Speaks of no program.
-/
namespace Go.Proofs.YtpgphhinelljoaaGreatDoor.SxV
set_option linter.unusedVariables false
set_option linter.unusedSimpArgs false
open Go Go.RowKit Go.Proofs.YtpgphhinelljoaaGreatDoor.Reg Go.Proofs.YtpgphhinelljoaaGreatDoor.Base Go.Proofs.YtpgphhinelljoaaGreatDoor.Sx Go.Proofs.YtpgphhinelljoaaGreatDoor.SxR
section
variable {P : Program} {ops : Array Oper} {Q : Exit → Act → World → Prop}
theorem call_run {i : Nat} {o : Oper} {F : FuncId} {d : Tmp} {K : Act → World → Prop} {b : Act} {y : World} {R : Value → World → Prop} (hi : ops[i]? = some o) (hg : o.guard = none) (hd : o.dst = some d) (ho : o.op = .call { callee := .value (.func F), args := #[], argTypes := #[] })
    (he : ∀ args w, (callFunc F args).run P w = .ok (.enter F args) w) (hc : Calls P F #[] y fun e w' => ∃ v, e = .returned v ∧ R v w') (h : ∀ v w', R v w' → K (b.put (some d) v) w') : wpOp P ops Q i K b y := by
  unfold wpOp
  simp only [hi]
  rw [if_pos (by simp [Region.wanted, hg])]
  refine .inl ?_
  unfold Oper.wp execOp
  simp [ho, resolve, show b.eval (.func F) = .func (.func F) #[] #[] from rfl, Deferred.ofValue, invoke, he, Oper.upon]
  refine hc.mono ?_
  rintro e w' ⟨v, rfl, hr⟩
  simp only [hd]
  exact h v w' hr
end
end Go.Proofs.YtpgphhinelljoaaGreatDoor.SxV

