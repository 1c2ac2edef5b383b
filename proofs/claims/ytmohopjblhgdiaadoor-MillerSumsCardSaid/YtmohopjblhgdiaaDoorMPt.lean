/-
  Own text. Points as words, over numbers of either kind: what is answered, and the points that are meant. Speaks of no program.
-/
import Derived.Test.YtmohopjblhgdiaaDoorMEc
import Derived.Test.YtmohopjblhgdiaaDoorMRegT
namespace Go.Proofs.YtmohopjblhgdiaaDoor.Pts
set_option linter.unusedVariables false
set_option linter.unusedSimpArgs false
open Go Go.RowKit Go.Proofs.YtmohopjblhgdiaaDoor.Reg Go.Proofs.YtmohopjblhgdiaaDoor.Base Go.Proofs.YtmohopjblhgdiaaDoor.Limb Go.Proofs.YtmohopjblhgdiaaDoor.Fp2 Go.Proofs.YtmohopjblhgdiaaDoor.Ec
/-- Numbers of a field, as words. -/
structure Nk (α : Type) where
  F : Go.Proofs.YtmohopjblhgdiaaDoor.Ec.Fd α
  n : Nat
  wo : α → List Int
  va : List Int → α
  wo_nm : ∀ a, Nm n (wo a)
  wo_eq : ∀ {a b}, F.eq a b → wo a = wo b
  eq_wo : ∀ {a b}, wo a = wo b → F.eq a b
  va_wo : ∀ a, F.eq (va (wo a)) a
  inv_eq : ∀ {a b}, F.eq a b → F.eq (F.inv a) (F.inv b)
  dec : DecidablePred F.Z
section
variable {α : Type} (K : Nk α)
instance : DecidablePred K.F.Z := K.dec
theorem sub_eq {a b c d : α} (h : K.F.eq a b) (h' : K.F.eq c d) : K.F.eq (K.F.sub a c) (K.F.sub b d) := K.F.add_eq h (K.F.mul_eq (K.F.refl _) h')
theorem red_wo (a : α) : K.wo (K.va (K.wo a)) = K.wo a := K.wo_eq (K.va_wo a)
theorem add_l (a b : α) : K.wo (K.F.add (K.va (K.wo a)) b) = K.wo (K.F.add a b) := K.wo_eq (K.F.add_eq (K.va_wo a) (K.F.refl b))
theorem add_r (a b : α) : K.wo (K.F.add a (K.va (K.wo b))) = K.wo (K.F.add a b) := K.wo_eq (K.F.add_eq (K.F.refl a) (K.va_wo b))
theorem sub_l (a b : α) : K.wo (K.F.sub (K.va (K.wo a)) b) = K.wo (K.F.sub a b) := K.wo_eq (sub_eq K (K.va_wo a) (K.F.refl b))
theorem sub_r (a b : α) : K.wo (K.F.sub a (K.va (K.wo b))) = K.wo (K.F.sub a b) := K.wo_eq (sub_eq K (K.F.refl a) (K.va_wo b))
theorem mul_l (a b : α) : K.wo (K.F.mul (K.va (K.wo a)) b) = K.wo (K.F.mul a b) := K.wo_eq (K.F.mul_eq (K.va_wo a) (K.F.refl b))
theorem mul_r (a b : α) : K.wo (K.F.mul a (K.va (K.wo b))) = K.wo (K.F.mul a b) := K.wo_eq (K.F.mul_eq (K.F.refl a) (K.va_wo b))
theorem inv_1 (a : α) : K.wo (K.F.inv (K.va (K.wo a))) = K.wo (K.F.inv a) := K.wo_eq (K.inv_eq (K.va_wo a))
theorem eq_iff {a b : α} : K.wo a = K.wo b ↔ K.F.eq a b := ⟨K.eq_wo, K.wo_eq⟩
theorem len (a : α) : (K.wo a).length = K.n := (K.wo_nm a).len
theorem z_eq {a : α} : K.F.Z a ↔ K.F.eq a (K.F.int 0) := by
  have e : K.F.add a (K.F.mul (K.F.int (-1)) (K.F.int 0)) = a := by rw [K.F.mul_zero, K.F.add_zero]
  rw [Fd.eq, e]
theorem wo_z {a : α} : K.wo a = K.wo (K.F.int 0) ↔ K.F.Z a := (eq_iff K).trans (z_eq K).symm
/-- The point that words are. -/
def ptv (xs : List Int) (b : Bool) : Pt α := if b = true then none else some (K.va (seg 0 K.n xs), K.va (seg K.n K.n xs))
def ptW : Pt α → List Int
  | none => List.replicate (K.n + K.n) 0
  | some (x, y) => K.wo x ++ K.wo y
def ptB : Pt α → Bool
  | none => true
  | some _ => false
theorem nm_ptW (A : Pt α) : Nm (K.n + K.n) (ptW K A) := by
  rcases A with _ | ⟨x, y⟩
  · exact ⟨by simp [ptW], words_zeros _⟩
  · exact (K.wo_nm x).app (K.wo_nm y)
theorem ptv_f (xs : List Int) : ptv K xs false = some (K.va (seg 0 K.n xs), K.va (seg K.n K.n xs)) := if_neg (by decide)
theorem ptv_t (xs : List Int) : ptv K xs true = none := if_pos rfl
theorem seg_x (x y : α) : seg 0 K.n (K.wo x ++ K.wo y) = K.wo x := List.take_left' (len K x)
theorem seg_y (x y : α) : seg K.n K.n (K.wo x ++ K.wo y) = K.wo y := by
  rw [seg, List.drop_left' (len K x), List.take_of_length_le (by rw [len]; exact Nat.le_refl _)]
theorem ptv_out (A : Pt α) : EqP K.F (ptv K (ptW K A) (ptB A)) A := by
  rcases A with _ | ⟨x, y⟩
  · rw [ptB, ptv_t]
    trivial
  · rw [ptB, ptv_f, ptW, seg_x, seg_y]
    exact ⟨K.va_wo x, K.va_wo y⟩
theorem out_eq {A B : Pt α} (h : EqP K.F A B) : ptW K A = ptW K B ∧ ptB A = ptB B := by
  rcases A with _ | ⟨x, y⟩ <;> rcases B with _ | ⟨x', y'⟩
  · exact ⟨rfl, rfl⟩
  · exact h.elim
  · exact h.elim
  · exact ⟨by rw [ptW, ptW, K.wo_eq h.1, K.wo_eq h.2], rfl⟩
/-- Whether a point is on the curve. -/
def onB (c : α) : Pt α → Bool
  | none => true
  | some (x, y) => decide (K.wo (K.F.mul y y) = K.wo (K.F.add (K.F.mul (K.F.mul x x) x) c))
/-- Fractions as words. -/
def fr3 (t : α × α × α) : List Int := K.wo t.1 ++ K.wo t.2.1 ++ K.wo t.2.2
def v3 (l : List Int) : α × α × α := (K.va (seg 0 K.n l), K.va (seg K.n K.n l), K.va (seg (K.n + K.n) K.n l))
def E3 (s t : α × α × α) : Prop := K.F.eq s.1 t.1 ∧ K.F.eq s.2.1 t.2.1 ∧ K.F.eq s.2.2 t.2.2
/-- Words to words. -/
def wr (x : List Int) : List Int := K.wo (K.va x)
def wa (x y : List Int) : List Int := K.wo (K.F.add (K.va x) (K.va y))
def ws (x y : List Int) : List Int := K.wo (K.F.sub (K.va x) (K.va y))
def wn (x : List Int) : List Int := K.wo (K.F.sub (K.F.int 0) (K.va x))
def wm (x y : List Int) : List Int := K.wo (K.F.mul (K.va x) (K.va y))
def wi (x : List Int) : List Int := K.wo (K.F.inv (K.va x))
/-- So many times a point, or what is said of one that is not on the curve. -/
def mulO (c : α) (m : Nat) (A : Pt α) : Pt α := if onB K c A = true then mulP K.F m A else some (K.F.int 0, K.F.int 0)
section
variable {c2 c3 c4 c8 : List Int} (h2 : K.va c2 = K.F.int 2) (h3 : K.va c3 = K.F.int 3) (h4 : K.va c4 = K.F.int 4) (h8 : K.va c8 = K.F.int 8)
/-- Slopes and sums, as they are reckoned. -/
def slTw (c2 c3 px py : List Int) : List Int := wm K (wm K c3 (wm K px px)) (wi K (wm K c2 py))
def slCw (px py qx qy : List Int) : List Int := wm K (ws K qy py) (wi K (ws K qx px))
def xsw (l px qx : List Int) : List Int := ws K (ws K (wm K l l) px) qx
def ysw (l px py x : List Int) : List Int := ws K (wm K l (ws K px x)) py
include h2 h3 in
theorem slT_ok (px py : List Int) : slTw K c2 c3 (wr K px) (wr K py) = K.wo (slT K.F (K.va px) (K.va py)) := by
  simp only [slTw, wm, wi, wr, h2, h3, mul_l, mul_r, inv_1, slT]
theorem slC_ok (px py qx qy : List Int) : slCw K (wr K px) (wr K py) (wr K qx) (wr K qy) = K.wo (slC K.F (K.va px) (K.va py) (K.va qx) (K.va qy)) := by
  simp only [slCw, wm, wi, wr, ws, mul_l, mul_r, sub_l, sub_r, inv_1, slC]
theorem trd_ok (l : α) (px py qx : List Int) : xsw K (K.wo l) px qx ++ ysw K (K.wo l) px py (xsw K (K.wo l) px qx) = ptW K (trd K.F l (K.va px) (K.va py) (K.va qx)) := by
  simp only [xsw, ysw, wm, ws, mul_l, mul_r, sub_l, sub_r, trd, ptW, Xs, Ys]
/-- Fractions: doubled, a point added. -/
def twR (c2 c3 c4 c8 X Y Z : List Int) : List Int :=
  ws K (wm K (wm K c3 (wm K X X)) (wm K c3 (wm K X X))) (wa K (wm K c4 (wm K X (wm K Y Y))) (wm K c4 (wm K X (wm K Y Y)))) ++
  ws K (wm K (wm K c3 (wm K X X)) (ws K (wm K c4 (wm K X (wm K Y Y))) (ws K (wm K (wm K c3 (wm K X X)) (wm K c3 (wm K X X))) (wa K (wm K c4 (wm K X (wm K Y Y))) (wm K c4 (wm K X (wm K Y Y))))))) (wm K c8 (wm K (wm K Y Y) (wm K Y Y))) ++
  wm K c2 (wm K Y Z)
def hW (X Z x2 : List Int) : List Int := ws K (wm K x2 (wm K Z Z)) X
def rW (Y Z y2 : List Int) : List Int := ws K (wm K y2 (wm K (wm K Z Z) Z)) Y
def plRw (X Y Z x2 y2 : List Int) : List Int :=
  ws K (ws K (wm K (rW K Y Z y2) (rW K Y Z y2)) (wm K (wm K (hW K X Z x2) (hW K X Z x2)) (hW K X Z x2))) (wa K (wm K X (wm K (hW K X Z x2) (hW K X Z x2))) (wm K X (wm K (hW K X Z x2) (hW K X Z x2)))) ++
  ws K (wm K (rW K Y Z y2) (ws K (wm K X (wm K (hW K X Z x2) (hW K X Z x2))) (ws K (ws K (wm K (rW K Y Z y2) (rW K Y Z y2)) (wm K (wm K (hW K X Z x2) (hW K X Z x2)) (hW K X Z x2))) (wa K (wm K X (wm K (hW K X Z x2) (hW K X Z x2))) (wm K X (wm K (hW K X Z x2) (hW K X Z x2))))))) (wm K Y (wm K (wm K (hW K X Z x2) (hW K X Z x2)) (hW K X Z x2))) ++
  wm K Z (hW K X Z x2)
/-- A fraction, written out. -/
def nmW (X Y Z : List Int) : List Int := wm K X (wm K (wi K Z) (wi K Z)) ++ wm K Y (wm K (wm K (wi K Z) (wi K Z)) (wi K Z))
include h4 in
theorem on_w (x y : List Int) : wm K y y = wa K (wm K (wm K x x) x) c4 ↔ onB K (K.F.int 4) (some (K.va x, K.va y)) = true := by
  simp only [onB, decide_eq_true_eq, wm, wa, add_l, mul_l, h4]
/-- The slope of two points' sum, and whether there is one. -/
def slF (c0 c2 c3 x y : List Int) : List Int × Bool :=
  if wr K (seg 0 K.n x) = wr K (seg 0 K.n y) then (if wr K (seg K.n K.n x) = wr K (seg K.n K.n y) ∧ ¬ wr K (seg K.n K.n x) = c0 then (slTw K c2 c3 (wr K (seg 0 K.n x)) (wr K (seg K.n K.n x)), true) else (List.replicate K.n 0, false))
  else (slCw K (wr K (seg 0 K.n x)) (wr K (seg K.n K.n x)) (wr K (seg 0 K.n y)) (wr K (seg K.n K.n y)), true)
variable {c0 : List Int} (h0 : K.wo (K.F.int 0) = c0)
include h0 in
theorem add_no {x y : List Int} (h : (slF K c0 c2 c3 x y).2 = false) : addP K.F (ptv K x false) (ptv K y false) = none := by
  rw [ptv_f, ptv_f, addP]
  unfold slF at h
  split at h
  · rename_i hx
    rw [if_pos (show K.F.Z (K.F.sub (K.va (seg 0 K.n x)) (K.va (seg 0 K.n y))) from K.eq_wo hx)]
    split at h
    · cases h
    · rename_i hy
      rw [if_neg]
      rintro ⟨e1, e2⟩
      exact hy ⟨K.wo_eq e1, fun e => e2 ((wo_z K).1 (e.trans h0.symm))⟩
  · cases h
include h0 h2 h3 in
theorem add_yes {x y : List Int} (h : (slF K c0 c2 c3 x y).2 = true) : xsw K (slF K c0 c2 c3 x y).1 (seg 0 K.n x) (seg 0 K.n y) ++ ysw K (slF K c0 c2 c3 x y).1 (seg 0 K.n x) (seg K.n K.n x) (xsw K (slF K c0 c2 c3 x y).1 (seg 0 K.n x) (seg 0 K.n y)) = ptW K (addP K.F (ptv K x false) (ptv K y false)) ∧ ptB (addP K.F (ptv K x false) (ptv K y false)) = false := by
  rw [ptv_f, ptv_f, addP]
  unfold slF at h ⊢
  split at h
  · rename_i hx
    simp only [if_pos hx]
    rw [if_pos (show K.F.Z (K.F.sub (K.va (seg 0 K.n x)) (K.va (seg 0 K.n y))) from K.eq_wo hx)]
    split at h
    · rename_i hy
      simp only [if_pos hy]
      rw [if_pos ⟨K.eq_wo hy.1, fun e => hy.2 (((wo_z K).2 e).trans h0)⟩, slT_ok K h2 h3, trd_ok]
      exact ⟨rfl, rfl⟩
    · cases h
  · rename_i hx
    simp only [if_neg hx]
    rw [if_neg (show ¬ K.F.Z (K.F.sub (K.va (seg 0 K.n x)) (K.va (seg 0 K.n y))) from fun e => hx (K.wo_eq e)), slC_ok, trd_ok]
    exact ⟨rfl, rfl⟩
/-- A fraction and a point. -/
def plF (c0 c1 c2 c3 c4 c8 l q : List Int) : List Int :=
  if seg (K.n + K.n) K.n l = c0 then q ++ c1
  else if hW K (seg 0 K.n l) (seg (K.n + K.n) K.n l) (seg 0 K.n q) = c0 then (if rW K (seg K.n K.n l) (seg (K.n + K.n) K.n l) (seg K.n K.n q) = c0 then twR K c2 c3 c4 c8 (seg 0 K.n l) (seg K.n K.n l) (seg (K.n + K.n) K.n l) else List.replicate (K.n + K.n + K.n) 0)
  else plRw K (seg 0 K.n l) (seg K.n K.n l) (seg (K.n + K.n) K.n l) (seg 0 K.n q) (seg K.n K.n q)
variable {c1 : List Int} (h1 : K.wo (K.F.int 1) = c1) (hz : List.replicate K.n 0 = c0)
/-- Words that are a point's fraction. -/
def RepW (l : List Int) (C : Pt α) : Prop := ∃ t, l = fr3 K t ∧ Rep K.F t.1 t.2.1 t.2.2 C
/-- A round: doubled; the point added. -/
def twL (c2 c3 c4 c8 l : List Int) : List Int := twR K c2 c3 c4 c8 (seg 0 K.n l) (seg K.n K.n l) (seg (K.n + K.n) K.n l)
section
variable {c : α} (hc : ¬ K.F.Z c)
end
end
end
end Go.Proofs.YtmohopjblhgdiaaDoor.Pts

/-
  Own text. Points as words: the laws of sums, as statements compare them. Speaks of no program.
-/
namespace Go.Proofs.YtmohopjblhgdiaaDoor.Pts
set_option linter.unusedVariables false
open Go Go.RowKit Go.Proofs.YtmohopjblhgdiaaDoor.Reg Go.Proofs.YtmohopjblhgdiaaDoor.Base Go.Proofs.YtmohopjblhgdiaaDoor.Limb Go.Proofs.YtmohopjblhgdiaaDoor.Fp2 Go.Proofs.YtmohopjblhgdiaaDoor.Ec
section
variable {α : Type} (K : Nk α) {c : α} (hc : ¬ K.F.Z c)
/-- A point that was answered, taken as an argument. -/
abbrev vo (A : Pt α) : Pt α := ptv K (ptW K A) (ptB A)
/-- The same words. -/
abbrev Sm (A B : Pt α) : Prop := ptW K A = ptW K B ∧ ptB A = ptB B
theorem add_v {A B A' B' : Pt α} (h : EqP K.F A A') (h' : EqP K.F B B') : EqP K.F (addP K.F (vo K A) (vo K B)) (addP K.F A' B') := add_eq' K.F (eqP_trans K.F (ptv_out K A) h) (eqP_trans K.F (ptv_out K B) h')
theorem neg_neg (A : Pt α) : EqP K.F (negP K.F (negP K.F A)) A := by
  rcases A with _ | ⟨x, y⟩
  · trivial
  · refine ⟨K.F.refl x, ?_⟩
    have e : K.F.sub (K.F.int 0) (K.F.sub (K.F.int 0) y) = y := K.F.eq_of (fun _ => y) (e := .s (.n 0) (.s (.n 0) (.v 0))) (f := .v 0) rfl rfl (by decide)
    rw [e]
    exact K.F.refl y
theorem mul_on {A : Pt α} (a : OnP K.F c A) (m : Nat) : OnP K.F c (mulP K.F m A) := (mulP_mult K.F a m).2
include hc in
theorem mul_add {A : Pt α} (a : OnP K.F c A) (m n : Nat) : EqP K.F (addP K.F (mulP K.F m A) (mulP K.F n A)) (mulP K.F (m + n) A) :=
  mulP_of K.F a (mult_add K.F hc a (mulP_mult K.F a m).1 (mulP_mult K.F a n).1 (add_sum K.F (mul_on K a m) (mul_on K a n)))
end
end Go.Proofs.YtmohopjblhgdiaaDoor.Pts

/-
  Own text. Points as words: doubles and sums as the landed code reckons them. Speaks of no program.
-/
namespace Go.Proofs.YtmohopjblhgdiaaDoor.Pts
set_option linter.unusedVariables false
set_option linter.unusedSimpArgs false
open Go Go.RowKit Go.Proofs.YtmohopjblhgdiaaDoor.Reg Go.Proofs.YtmohopjblhgdiaaDoor.Base Go.Proofs.YtmohopjblhgdiaaDoor.Limb Go.Proofs.YtmohopjblhgdiaaDoor.Fp2 Go.Proofs.YtmohopjblhgdiaaDoor.Ec Go.Proofs.YtmohopjblhgdiaaDoor.Ring
section
variable {α : Type} (F : Go.Proofs.YtmohopjblhgdiaaDoor.Ec.Fd α)
theorem two_ (a : α) : F.add a a = F.mul (F.int 2) a := F.eq_of (fun _ => a) (e := .a (.v 0) (.v 0)) (f := .m (.n 2) (.v 0)) rfl rfl (by decide)
theorem three_ (a : α) : F.add (F.add a a) a = F.mul (F.int 3) a := F.eq_of (fun _ => a) (e := .a (.a (.v 0) (.v 0)) (.v 0)) (f := .m (.n 3) (.v 0)) rfl rfl (by decide)
end
section
variable {α : Type} (K : Nk α)
/-- Twice, three times. -/
def w2 (a : List Int) : List Int := wa K a a
def w3 (a : List Int) : List Int := wa K (wa K a a) a
def slTl (px py : List Int) : List Int := wm K (w3 K (wm K px px)) (wi K (w2 K py))
theorem slTl_ok {c2 c3 : List Int} (h2 : K.va c2 = K.F.int 2) (h3 : K.va c3 = K.F.int 3) (px py : List Int) : slTl K px py = slTw K c2 c3 px py := by
  simp only [slTl, slTw, w2, w3, wm, wa, wi, h2, h3, mul_l, mul_r, add_l, add_r, inv_1]
  rw [three_, two_]
theorem on_wc {c : α} {cb : List Int} (hb : K.va cb = c) (x y : List Int) : wm K y y = wa K (wm K (wm K x x) x) cb ↔ onB K c (some (K.va x, K.va y)) = true := by
  simp only [onB, decide_eq_true_eq, wm, wa, add_l, mul_l, hb]
/-- A fraction twice. -/
def dbR (X Y Z : List Int) : List Int :=
  ws K (wm K (w3 K (wm K X X)) (w3 K (wm K X X))) (w2 K (wm K X (wm K (w2 K Y) (w2 K Y)))) ++
  ws K (wm K (w3 K (wm K X X)) (ws K (wm K X (wm K (w2 K Y) (w2 K Y))) (ws K (wm K (w3 K (wm K X X)) (w3 K (wm K X X))) (w2 K (wm K X (wm K (w2 K Y) (w2 K Y))))))) (wm K Y (wm K (wm K (w2 K Y) (w2 K Y)) (w2 K Y))) ++
  wm K (w2 K Y) Z
/-- A fraction and a point. -/
def psR (X Y Z x2 y2 : List Int) : List Int :=
  ws K (ws K (wm K (rW K Y Z y2) (rW K Y Z y2)) (wm K (wm K (hW K X Z x2) (hW K X Z x2)) (hW K X Z x2))) (w2 K (wm K X (wm K (hW K X Z x2) (hW K X Z x2)))) ++
  ws K (wm K (rW K Y Z y2) (ws K (wm K X (wm K (hW K X Z x2) (hW K X Z x2))) (ws K (ws K (wm K (rW K Y Z y2) (rW K Y Z y2)) (wm K (wm K (hW K X Z x2) (hW K X Z x2)) (hW K X Z x2))) (w2 K (wm K X (wm K (hW K X Z x2) (hW K X Z x2))))))) (wm K Y (wm K (wm K (hW K X Z x2) (hW K X Z x2)) (hW K X Z x2))) ++
  wm K (hW K X Z x2) Z
def dbF (c0 l : List Int) : List Int := if seg (K.n + K.n) K.n l = c0 then l else dbR K (seg 0 K.n l) (seg K.n K.n l) (seg (K.n + K.n) K.n l)
def psF (c0 c1 l q : List Int) : List Int :=
  if seg (K.n + K.n) K.n l = c0 then seg 0 K.n q ++ seg K.n K.n q ++ c1
  else if hW K (seg 0 K.n l) (seg (K.n + K.n) K.n l) (seg 0 K.n q) = c0 ∧ rW K (seg K.n K.n l) (seg (K.n + K.n) K.n l) (seg K.n K.n q) = c0 then dbF K c0 l
  else psR K (seg 0 K.n l) (seg K.n K.n l) (seg (K.n + K.n) K.n l) (seg 0 K.n q) (seg K.n K.n q)
/-- Words that are a point's fraction, the last number below p. -/
def RepV (l : List Int) (C : Pt α) : Prop := Rep K.F (K.va (seg 0 K.n l)) (K.va (seg K.n K.n l)) (K.va (seg (K.n + K.n) K.n l)) C ∧ wr K (seg (K.n + K.n) K.n l) = seg (K.n + K.n) K.n l
variable {c0 c1 : List Int} (h0 : K.wo (K.F.int 0) = c0) (h1 : K.wo (K.F.int 1) = c1)
include h0 in
theorem zv {z : List Int} (h : wr K z = z) : z = c0 ↔ K.F.Z (K.va z) := by
  rw [← wo_z, h0]
  exact ⟨fun e => by rw [← e]; exact h, fun e => h ▸ e⟩
section
variable {c : α} (hc : ¬ K.F.Z c)
end
end
end Go.Proofs.YtmohopjblhgdiaaDoor.Pts

