/-
  Own text. Points as words, over numbers of either kind: what is answered, and the points that are meant. Speaks of no program.
-/
import Derived.Test.YtpgphhinelljoaaGreatDoorMEc
import Derived.Test.YtpgphhinelljoaaGreatDoorMRegT
namespace Go.Proofs.YtpgphhinelljoaaGreatDoor.Pts
set_option linter.unusedVariables false
set_option linter.unusedSimpArgs false
open Go Go.RowKit Go.Proofs.YtpgphhinelljoaaGreatDoor.Reg Go.Proofs.YtpgphhinelljoaaGreatDoor.Base Go.Proofs.YtpgphhinelljoaaGreatDoor.Limb Go.Proofs.YtpgphhinelljoaaGreatDoor.Fp2 Go.Proofs.YtpgphhinelljoaaGreatDoor.Ec
/-- Numbers of a field, as words. -/
structure Nk (α : Type) where
  F : Go.Proofs.YtpgphhinelljoaaGreatDoor.Ec.Fd α
  n : Nat
  wo : α → List Int
  va : List Int → α
  wo_nm : ∀ a, Nm n (wo a)
  wo_eq : ∀ {a b}, F.eq a b → wo a = wo b
  eq_wo : ∀ {a b}, wo a = wo b → F.eq a b
  va_wo : ∀ a, F.eq (va (wo a)) a
  inv_eq : ∀ {a b}, F.eq a b → F.eq (F.inv a) (F.inv b)
  dec : DecidablePred F.Z
section
variable {α : Type} (K : Nk α)
instance : DecidablePred K.F.Z := K.dec
theorem sub_eq {a b c d : α} (h : K.F.eq a b) (h' : K.F.eq c d) : K.F.eq (K.F.sub a c) (K.F.sub b d) := K.F.add_eq h (K.F.mul_eq (K.F.refl _) h')
theorem red_wo (a : α) : K.wo (K.va (K.wo a)) = K.wo a := K.wo_eq (K.va_wo a)
theorem add_l (a b : α) : K.wo (K.F.add (K.va (K.wo a)) b) = K.wo (K.F.add a b) := K.wo_eq (K.F.add_eq (K.va_wo a) (K.F.refl b))
theorem add_r (a b : α) : K.wo (K.F.add a (K.va (K.wo b))) = K.wo (K.F.add a b) := K.wo_eq (K.F.add_eq (K.F.refl a) (K.va_wo b))
theorem sub_l (a b : α) : K.wo (K.F.sub (K.va (K.wo a)) b) = K.wo (K.F.sub a b) := K.wo_eq (sub_eq K (K.va_wo a) (K.F.refl b))
theorem sub_r (a b : α) : K.wo (K.F.sub a (K.va (K.wo b))) = K.wo (K.F.sub a b) := K.wo_eq (sub_eq K (K.F.refl a) (K.va_wo b))
theorem mul_l (a b : α) : K.wo (K.F.mul (K.va (K.wo a)) b) = K.wo (K.F.mul a b) := K.wo_eq (K.F.mul_eq (K.va_wo a) (K.F.refl b))
theorem mul_r (a b : α) : K.wo (K.F.mul a (K.va (K.wo b))) = K.wo (K.F.mul a b) := K.wo_eq (K.F.mul_eq (K.F.refl a) (K.va_wo b))
theorem eq_iff {a b : α} : K.wo a = K.wo b ↔ K.F.eq a b := ⟨K.eq_wo, K.wo_eq⟩
theorem len (a : α) : (K.wo a).length = K.n := (K.wo_nm a).len
theorem z_eq {a : α} : K.F.Z a ↔ K.F.eq a (K.F.int 0) := by
  have e : K.F.add a (K.F.mul (K.F.int (-1)) (K.F.int 0)) = a := by rw [K.F.mul_zero, K.F.add_zero]
  rw [Fd.eq, e]
theorem wo_z {a : α} : K.wo a = K.wo (K.F.int 0) ↔ K.F.Z a := (eq_iff K).trans (z_eq K).symm
/-- The point that words are. -/
def ptv (xs : List Int) (b : Bool) : Pt α := if b = true then none else some (K.va (seg 0 K.n xs), K.va (seg K.n K.n xs))
def ptW : Pt α → List Int
  | none => List.replicate (K.n + K.n) 0
  | some (x, y) => K.wo x ++ K.wo y
def ptB : Pt α → Bool
  | none => true
  | some _ => false
theorem nm_ptW (A : Pt α) : Nm (K.n + K.n) (ptW K A) := by
  rcases A with _ | ⟨x, y⟩
  · exact ⟨by simp [ptW], words_zeros _⟩
  · exact (K.wo_nm x).app (K.wo_nm y)
theorem ptv_f (xs : List Int) : ptv K xs false = some (K.va (seg 0 K.n xs), K.va (seg K.n K.n xs)) := if_neg (by decide)
theorem ptv_t (xs : List Int) : ptv K xs true = none := if_pos rfl
theorem seg_x (x y : α) : seg 0 K.n (K.wo x ++ K.wo y) = K.wo x := List.take_left' (len K x)
theorem seg_y (x y : α) : seg K.n K.n (K.wo x ++ K.wo y) = K.wo y := by
  rw [seg, List.drop_left' (len K x), List.take_of_length_le (by rw [len]; exact Nat.le_refl _)]
theorem ptv_out (A : Pt α) : EqP K.F (ptv K (ptW K A) (ptB A)) A := by
  rcases A with _ | ⟨x, y⟩
  · rw [ptB, ptv_t]
    trivial
  · rw [ptB, ptv_f, ptW, seg_x, seg_y]
    exact ⟨K.va_wo x, K.va_wo y⟩
theorem out_eq {A B : Pt α} (h : EqP K.F A B) : ptW K A = ptW K B ∧ ptB A = ptB B := by
  rcases A with _ | ⟨x, y⟩ <;> rcases B with _ | ⟨x', y'⟩
  · exact ⟨rfl, rfl⟩
  · exact h.elim
  · exact h.elim
  · exact ⟨by rw [ptW, ptW, K.wo_eq h.1, K.wo_eq h.2], rfl⟩
/-- Whether a point is on the curve. -/
def onB (c : α) : Pt α → Bool
  | none => true
  | some (x, y) => decide (K.wo (K.F.mul y y) = K.wo (K.F.add (K.F.mul (K.F.mul x x) x) c))
theorem onB_iff {c : α} {A : Pt α} : onB K c A = true ↔ OnP K.F c A := by
  rcases A with _ | ⟨x, y⟩
  · exact ⟨fun _ => trivial, fun _ => rfl⟩
  · rw [onB, decide_eq_true_eq, eq_iff]
    exact Iff.rfl
theorem onB_eq {c : α} {A B : Pt α} (h : EqP K.F A B) : onB K c A = onB K c B := by
  rw [Bool.eq_iff_iff, onB_iff, onB_iff]
  exact ⟨fun k => onP_eq K.F h k, fun k => onP_eq K.F (eqP_symm K.F h) k⟩
/-- Fractions as words. -/
def fr3 (t : α × α × α) : List Int := K.wo t.1 ++ K.wo t.2.1 ++ K.wo t.2.2
def v3 (l : List Int) : α × α × α := (K.va (seg 0 K.n l), K.va (seg K.n K.n l), K.va (seg (K.n + K.n) K.n l))
theorem seg3 (t : α × α × α) : seg 0 K.n (fr3 K t) = K.wo t.1 ∧ seg K.n K.n (fr3 K t) = K.wo t.2.1 ∧ seg (K.n + K.n) K.n (fr3 K t) = K.wo t.2.2 := by
  refine ⟨?_, ?_, ?_⟩
  · rw [fr3, List.append_assoc]
    exact List.take_left' (len K _)
  · rw [fr3, List.append_assoc, seg, List.drop_left' (len K _)]
    exact List.take_left' (len K _)
  · rw [fr3, seg, List.drop_left' (by rw [List.length_append, len, len]), List.take_of_length_le (by rw [len]; exact Nat.le_refl _)]
def E3 (s t : α × α × α) : Prop := K.F.eq s.1 t.1 ∧ K.F.eq s.2.1 t.2.1 ∧ K.F.eq s.2.2 t.2.2
/-- Words to words. -/
def wr (x : List Int) : List Int := K.wo (K.va x)
def wa (x y : List Int) : List Int := K.wo (K.F.add (K.va x) (K.va y))
def ws (x y : List Int) : List Int := K.wo (K.F.sub (K.va x) (K.va y))
def wn (x : List Int) : List Int := K.wo (K.F.sub (K.F.int 0) (K.va x))
def wm (x y : List Int) : List Int := K.wo (K.F.mul (K.va x) (K.va y))
def wi (x : List Int) : List Int := K.wo (K.F.inv (K.va x))
/-- So many times a point, or what is said of one that is not on the curve. -/
def mulO (c : α) (m : Nat) (A : Pt α) : Pt α := if onB K c A = true then mulP K.F m A else some (K.F.int 0, K.F.int 0)
section
variable {c2 c3 c4 c8 : List Int} (h2 : K.va c2 = K.F.int 2) (h3 : K.va c3 = K.F.int 3) (h4 : K.va c4 = K.F.int 4) (h8 : K.va c8 = K.F.int 8)
/-- Slopes and sums, as they are reckoned. -/
def slTw (c2 c3 px py : List Int) : List Int := wm K (wm K c3 (wm K px px)) (wi K (wm K c2 py))
def slCw (px py qx qy : List Int) : List Int := wm K (ws K qy py) (wi K (ws K qx px))
def xsw (l px qx : List Int) : List Int := ws K (ws K (wm K l l) px) qx
def ysw (l px py x : List Int) : List Int := ws K (wm K l (ws K px x)) py
/-- Fractions: doubled, a point added. -/
def twR (c2 c3 c4 c8 X Y Z : List Int) : List Int :=
  ws K (wm K (wm K c3 (wm K X X)) (wm K c3 (wm K X X))) (wa K (wm K c4 (wm K X (wm K Y Y))) (wm K c4 (wm K X (wm K Y Y)))) ++
  ws K (wm K (wm K c3 (wm K X X)) (ws K (wm K c4 (wm K X (wm K Y Y))) (ws K (wm K (wm K c3 (wm K X X)) (wm K c3 (wm K X X))) (wa K (wm K c4 (wm K X (wm K Y Y))) (wm K c4 (wm K X (wm K Y Y))))))) (wm K c8 (wm K (wm K Y Y) (wm K Y Y))) ++
  wm K c2 (wm K Y Z)
include h2 h3 h4 h8 in
theorem twR_ok (X Y Z : List Int) : twR K c2 c3 c4 c8 X Y Z = fr3 K (twX K.F (K.va X) (K.va Y), twY K.F (K.va X) (K.va Y), twZ K.F (K.va Y) (K.va Z)) := by
  simp only [twR, wm, ws, wa, h2, h3, h4, h8, mul_l, mul_r, sub_l, sub_r, add_l, add_r, fr3, twX, twY, twZ]
def hW (X Z x2 : List Int) : List Int := ws K (wm K x2 (wm K Z Z)) X
def rW (Y Z y2 : List Int) : List Int := ws K (wm K y2 (wm K (wm K Z Z) Z)) Y
theorem hW_ok (X Z x2 : List Int) : hW K X Z x2 = K.wo (plH K.F (K.va X) (K.va Z) (K.va x2)) := by
  simp only [hW, wm, ws, mul_l, mul_r, sub_l, sub_r, plH]
theorem rW_ok (Y Z y2 : List Int) : rW K Y Z y2 = K.wo (plR K.F (K.va Y) (K.va Z) (K.va y2)) := by
  simp only [rW, wm, ws, mul_l, mul_r, sub_l, sub_r, plR]
def plRw (X Y Z x2 y2 : List Int) : List Int :=
  ws K (ws K (wm K (rW K Y Z y2) (rW K Y Z y2)) (wm K (wm K (hW K X Z x2) (hW K X Z x2)) (hW K X Z x2))) (wa K (wm K X (wm K (hW K X Z x2) (hW K X Z x2))) (wm K X (wm K (hW K X Z x2) (hW K X Z x2)))) ++
  ws K (wm K (rW K Y Z y2) (ws K (wm K X (wm K (hW K X Z x2) (hW K X Z x2))) (ws K (ws K (wm K (rW K Y Z y2) (rW K Y Z y2)) (wm K (wm K (hW K X Z x2) (hW K X Z x2)) (hW K X Z x2))) (wa K (wm K X (wm K (hW K X Z x2) (hW K X Z x2))) (wm K X (wm K (hW K X Z x2) (hW K X Z x2))))))) (wm K Y (wm K (wm K (hW K X Z x2) (hW K X Z x2)) (hW K X Z x2))) ++
  wm K Z (hW K X Z x2)
theorem plRw_ok (X Y Z x2 y2 : List Int) : plRw K X Y Z x2 y2 = fr3 K (plX K.F (K.va X) (K.va Y) (K.va Z) (K.va x2) (K.va y2), plY K.F (K.va X) (K.va Y) (K.va Z) (K.va x2) (K.va y2), plZ K.F (K.va X) (K.va Z) (K.va x2)) := by
  simp only [plRw, hW, rW, wm, ws, wa, mul_l, mul_r, sub_l, sub_r, add_l, add_r, fr3, plX, plY, plZ]
/-- A fraction, written out. -/
def nmW (X Y Z : List Int) : List Int := wm K X (wm K (wi K Z) (wi K Z)) ++ wm K Y (wm K (wm K (wi K Z) (wi K Z)) (wi K Z))
theorem nmW_ok (X Y Z : List Int) (h : ¬ K.F.Z (K.va Z)) : nmW K X Y Z = ptW K (normP K.F (K.va X) (K.va Y) (K.va Z)) := by
  rw [normP, if_neg h]
  simp only [nmW, wm, wi, mul_l, mul_r, ptW]
include h4 in
theorem on_w (x y : List Int) : wm K y y = wa K (wm K (wm K x x) x) c4 ↔ onB K (K.F.int 4) (some (K.va x, K.va y)) = true := by
  simp only [onB, decide_eq_true_eq, wm, wa, add_l, mul_l, h4]
/-- The slope of two points' sum, and whether there is one. -/
def slF (c0 c2 c3 x y : List Int) : List Int × Bool :=
  if wr K (seg 0 K.n x) = wr K (seg 0 K.n y) then (if wr K (seg K.n K.n x) = wr K (seg K.n K.n y) ∧ ¬ wr K (seg K.n K.n x) = c0 then (slTw K c2 c3 (wr K (seg 0 K.n x)) (wr K (seg K.n K.n x)), true) else (List.replicate K.n 0, false))
  else (slCw K (wr K (seg 0 K.n x)) (wr K (seg K.n K.n x)) (wr K (seg 0 K.n y)) (wr K (seg K.n K.n y)), true)
variable {c0 : List Int} (h0 : K.wo (K.F.int 0) = c0)
/-- A fraction and a point. -/
def plF (c0 c1 c2 c3 c4 c8 l q : List Int) : List Int :=
  if seg (K.n + K.n) K.n l = c0 then q ++ c1
  else if hW K (seg 0 K.n l) (seg (K.n + K.n) K.n l) (seg 0 K.n q) = c0 then (if rW K (seg K.n K.n l) (seg (K.n + K.n) K.n l) (seg K.n K.n q) = c0 then twR K c2 c3 c4 c8 (seg 0 K.n l) (seg K.n K.n l) (seg (K.n + K.n) K.n l) else List.replicate (K.n + K.n + K.n) 0)
  else plRw K (seg 0 K.n l) (seg K.n K.n l) (seg (K.n + K.n) K.n l) (seg 0 K.n q) (seg K.n K.n q)
variable {c1 : List Int} (h1 : K.wo (K.F.int 1) = c1) (hz : List.replicate K.n 0 = c0)
theorem wo_va_z (a : α) : K.F.Z (K.va (K.wo a)) ↔ K.wo a = K.wo (K.F.int 0) := by rw [← wo_z, red_wo]
include h0 h1 h2 h3 h4 h8 hz in
theorem plF_ok (t : α × α × α) (u v : α) : plF K c0 c1 c2 c3 c4 c8 (fr3 K t) (K.wo u ++ K.wo v) = fr3 K (pl3 K.F (K.va (K.wo t.1)) (K.va (K.wo t.2.1)) (K.va (K.wo t.2.2)) (K.va (K.wo u)) (K.va (K.wo v))) := by
  obtain ⟨s1, s2, s3⟩ := seg3 K t
  rw [plF, s1, s2, s3, seg_x, seg_y, pl3, hW_ok, rW_ok]
  by_cases e1 : K.wo t.2.2 = c0
  · rw [if_pos e1, if_pos ((wo_va_z K _).2 (e1.trans h0.symm)), fr3]
    simp only [red_wo, h1]
  · rw [if_neg e1, if_neg (fun h => e1 (((wo_va_z K _).1 h).trans h0))]
    by_cases e2 : K.wo (plH K.F (K.va (K.wo t.1)) (K.va (K.wo t.2.2)) (K.va (K.wo u))) = c0
    · rw [if_pos e2, if_pos ((wo_z K).1 (e2.trans h0.symm))]
      by_cases e3 : K.wo (plR K.F (K.va (K.wo t.2.1)) (K.va (K.wo t.2.2)) (K.va (K.wo v))) = c0
      · rw [if_pos e3, if_pos ((wo_z K).1 (e3.trans h0.symm)), twR_ok K h2 h3 h4 h8]
      · rw [if_neg e3, if_neg (fun h => e3 (((wo_z K).2 h).trans h0)), fr3]
        simp only [h0, ← hz, List.replicate_append_replicate]
    · rw [if_neg e2, if_neg (fun h => e2 (((wo_z K).2 h).trans h0)), plRw_ok]
/-- Words that are a point's fraction. -/
def RepW (l : List Int) (C : Pt α) : Prop := ∃ t, l = fr3 K t ∧ Rep K.F t.1 t.2.1 t.2.2 C
/-- A round: doubled; the point added. -/
def twL (c2 c3 c4 c8 l : List Int) : List Int := twR K c2 c3 c4 c8 (seg 0 K.n l) (seg K.n K.n l) (seg (K.n + K.n) K.n l)
section
variable {c : α} (hc : ¬ K.F.Z c)
include h2 h3 h4 h8 hc in
theorem round_two {l : List Int} {m : Nat} {A C : Pt α} (a : OnP K.F c A) (hm : Mult K.F m A C) (h : RepW K l C) : ∃ D, Mult K.F (m + m) A D ∧ RepW K (twL K c2 c3 c4 c8 l) D := by
  obtain ⟨t, rfl, hr⟩ := h
  obtain ⟨D, hD, hE⟩ := step_two K.F hc a hm (rep_congr K.F (K.F.symm (K.va_wo t.1)) (K.F.symm (K.va_wo t.2.1)) (K.F.symm (K.va_wo t.2.2)) hr)
  obtain ⟨s1, s2, s3⟩ := seg3 K t
  exact ⟨D, hD, _, by rw [twL, s1, s2, s3, twR_ok K h2 h3 h4 h8], hE⟩
include h0 h1 h2 h3 h4 h8 hz in
theorem round_one {l : List Int} {m : Nat} {x : List Int} {C : Pt α} (a : OnP K.F c (ptv K x false)) (hm : Mult K.F m (ptv K x false) C) (h : RepW K l C) : ∃ D, Mult K.F (m + 1) (ptv K x false) D ∧ RepW K (plF K c0 c1 c2 c3 c4 c8 l (ptW K (ptv K x false))) D := by
  obtain ⟨t, rfl, hr⟩ := h
  rw [ptv_f] at a hm ⊢
  obtain ⟨D, hD, hE⟩ := step_one K.F (x2 := K.va (K.wo (K.va (seg 0 K.n x)))) (y2 := K.va (K.wo (K.va (seg K.n K.n x)))) a ⟨K.va_wo _, K.va_wo _⟩ hm (rep_congr K.F (K.F.symm (K.va_wo t.1)) (K.F.symm (K.va_wo t.2.1)) (K.F.symm (K.va_wo t.2.2)) hr)
  exact ⟨D, hD, _, by rw [ptW, plF_ok K h2 h3 h4 h8 h0 h1 hz], hE⟩
include h0 in
theorem rep_none (hz : List.replicate K.n 0 = c0) : RepW K (List.replicate (K.n + K.n + K.n) 0) none :=
  ⟨(K.F.int 0, K.F.int 0, K.F.int 0), by rw [fr3]; simp only [h0, ← hz, List.replicate_append_replicate], K.F.z0⟩
theorem mulP_none : ∀ n, EqP K.F none (mulP K.F n none)
  | 0 => trivial
  | n + 1 => by
    have h := mulP_none n
    show EqP K.F none (addP K.F (mulP K.F n none) none)
    cases e : mulP K.F n none with
    | none => trivial
    | some a => rw [e] at h; exact h.elim
include h0 in
/-- What is left at the end. -/
theorem fin_z {l : List Int} {m : Nat} {A C : Pt α} (a : OnP K.F c A) (hm : Mult K.F m A C) (h : RepW K l C) (e : seg (K.n + K.n) K.n l = c0) : ptW K (mulP K.F m A) = ptW K none ∧ ptB (mulP K.F m A) = true := by
  obtain ⟨t, rfl, hr⟩ := h
  rw [(seg3 K t).2.2] at e
  have hz : K.F.Z t.2.2 := (wo_z K).1 (e.trans h0.symm)
  have h3 := norm_rep K.F hr
  rw [normP, if_pos hz] at h3
  exact out_eq K (eqP_trans K.F (eqP_symm K.F (mulP_of K.F a hm)) (eqP_symm K.F h3))
include h0 in
theorem fin_n {l : List Int} {m : Nat} {A C : Pt α} (a : OnP K.F c A) (hm : Mult K.F m A C) (h : RepW K l C) (e : ¬ seg (K.n + K.n) K.n l = c0) : ptW K (mulP K.F m A) = nmW K (seg 0 K.n l) (seg K.n K.n l) (seg (K.n + K.n) K.n l) ∧ ptB (mulP K.F m A) = false := by
  obtain ⟨t, rfl, hr⟩ := h
  obtain ⟨s1, s2, s3⟩ := seg3 K t
  rw [s3] at e
  have hz : ¬ K.F.Z (K.va (K.wo t.2.2)) := fun k => e (((wo_va_z K _).1 k).trans h0)
  have h3 := norm_rep K.F (rep_congr K.F (K.F.symm (K.va_wo t.1)) (K.F.symm (K.va_wo t.2.1)) (K.F.symm (K.va_wo t.2.2)) hr)
  have h4 := out_eq K (eqP_trans K.F (eqP_symm K.F (mulP_of K.F a hm)) (eqP_symm K.F h3))
  rw [s1, s2, s3, nmW_ok K _ _ _ hz]
  refine ⟨h4.1, h4.2.trans ?_⟩
  rw [normP, if_neg hz]
  rfl
end
end
end
end Go.Proofs.YtpgphhinelljoaaGreatDoor.Pts

/-
  Own text. Points as words: the laws of sums, as statements compare them. Speaks of no program.
-/
namespace Go.Proofs.YtpgphhinelljoaaGreatDoor.Pts
set_option linter.unusedVariables false
open Go Go.RowKit Go.Proofs.YtpgphhinelljoaaGreatDoor.Reg Go.Proofs.YtpgphhinelljoaaGreatDoor.Base Go.Proofs.YtpgphhinelljoaaGreatDoor.Limb Go.Proofs.YtpgphhinelljoaaGreatDoor.Fp2 Go.Proofs.YtpgphhinelljoaaGreatDoor.Ec
section
variable {α : Type} (K : Nk α) {c : α} (hc : ¬ K.F.Z c)
/-- A point that was answered, taken as an argument. -/
abbrev vo (A : Pt α) : Pt α := ptv K (ptW K A) (ptB A)
/-- The same words. -/
abbrev Sm (A B : Pt α) : Prop := ptW K A = ptW K B ∧ ptB A = ptB B
theorem sm {A B : Pt α} (h : EqP K.F A B) : Sm K A B := out_eq K h
theorem on_v (A : Pt α) : onB K c (vo K A) = onB K c A := onB_eq K (ptv_out K A)
theorem neg_neg (A : Pt α) : EqP K.F (negP K.F (negP K.F A)) A := by
  rcases A with _ | ⟨x, y⟩
  · trivial
  · refine ⟨K.F.refl x, ?_⟩
    have e : K.F.sub (K.F.int 0) (K.F.sub (K.F.int 0) y) = y := K.F.eq_of (fun _ => y) (e := .s (.n 0) (.s (.n 0) (.v 0))) (f := .v 0) rfl rfl (by decide)
    rw [e]
    exact K.F.refl y
theorem mul_on {A : Pt α} (a : OnP K.F c A) (m : Nat) : OnP K.F c (mulP K.F m A) := (mulP_mult K.F a m).2
include hc in
theorem mul_add {A : Pt α} (a : OnP K.F c A) (m n : Nat) : EqP K.F (addP K.F (mulP K.F m A) (mulP K.F n A)) (mulP K.F (m + n) A) :=
  mulP_of K.F a (mult_add K.F hc a (mulP_mult K.F a m).1 (mulP_mult K.F a n).1 (add_sum K.F (mul_on K a m) (mul_on K a n)))
theorem mulP_eq {A B : Pt α} (h : EqP K.F A B) : ∀ m, EqP K.F (mulP K.F m A) (mulP K.F m B)
  | 0 => trivial
  | m + 1 => add_eq' K.F (mulP_eq h m) h
end
end Go.Proofs.YtpgphhinelljoaaGreatDoor.Pts

/-
  Own text. Points as words: doubles and sums as the landed code reckons them. Speaks of no program.
-/
namespace Go.Proofs.YtpgphhinelljoaaGreatDoor.Pts
set_option linter.unusedVariables false
set_option linter.unusedSimpArgs false
open Go Go.RowKit Go.Proofs.YtpgphhinelljoaaGreatDoor.Reg Go.Proofs.YtpgphhinelljoaaGreatDoor.Base Go.Proofs.YtpgphhinelljoaaGreatDoor.Limb Go.Proofs.YtpgphhinelljoaaGreatDoor.Fp2 Go.Proofs.YtpgphhinelljoaaGreatDoor.Ec Go.Proofs.YtpgphhinelljoaaGreatDoor.Ring
section
variable {α : Type} (F : Go.Proofs.YtpgphhinelljoaaGreatDoor.Ec.Fd α)
theorem three_ (a : α) : F.add (F.add a a) a = F.mul (F.int 3) a := F.eq_of (fun _ => a) (e := .a (.a (.v 0) (.v 0)) (.v 0)) (f := .m (.n 3) (.v 0)) rfl rfl (by decide)
theorem four_ (x y : α) : F.mul x (F.mul (F.add y y) (F.add y y)) = F.mul (F.int 4) (F.mul x (F.mul y y)) := F.eq_of (fun i => match i with | 0 => x | _ => y) (e := .m (.v 0) (.m (.a (.v 1) (.v 1)) (.a (.v 1) (.v 1)))) (f := .m (.n 4) (.m (.v 0) (.m (.v 1) (.v 1)))) rfl rfl (by decide)
theorem eight_ (y : α) : F.mul y (F.mul (F.mul (F.add y y) (F.add y y)) (F.add y y)) = F.mul (F.int 8) (F.mul (F.mul y y) (F.mul y y)) := F.eq_of (fun _ => y) (e := .m (.v 0) (.m (.m (.a (.v 0) (.v 0)) (.a (.v 0) (.v 0))) (.a (.v 0) (.v 0)))) (f := .m (.n 8) (.m (.m (.v 0) (.v 0)) (.m (.v 0) (.v 0)))) rfl rfl (by decide)
theorem twoz_ (y z : α) : F.mul (F.add y y) z = F.mul (F.int 2) (F.mul y z) := F.eq_of (fun i => match i with | 0 => y | _ => z) (e := .m (.a (.v 0) (.v 0)) (.v 1)) (f := .m (.n 2) (.m (.v 0) (.v 1))) rfl rfl (by decide)
end
section
variable {α : Type} (K : Nk α)
/-- Twice, three times. -/
def w2 (a : List Int) : List Int := wa K a a
def w3 (a : List Int) : List Int := wa K (wa K a a) a
def slTl (px py : List Int) : List Int := wm K (w3 K (wm K px px)) (wi K (w2 K py))
theorem wm_comm (x y : List Int) : wm K x y = wm K y x := by rw [wm, wm, K.F.mul_comm]
theorem on_wc {c : α} {cb : List Int} (hb : K.va cb = c) (x y : List Int) : wm K y y = wa K (wm K (wm K x x) x) cb ↔ onB K c (some (K.va x, K.va y)) = true := by
  simp only [onB, decide_eq_true_eq, wm, wa, add_l, mul_l, hb]
/-- A fraction twice. -/
def dbR (X Y Z : List Int) : List Int :=
  ws K (wm K (w3 K (wm K X X)) (w3 K (wm K X X))) (w2 K (wm K X (wm K (w2 K Y) (w2 K Y)))) ++
  ws K (wm K (w3 K (wm K X X)) (ws K (wm K X (wm K (w2 K Y) (w2 K Y))) (ws K (wm K (w3 K (wm K X X)) (w3 K (wm K X X))) (w2 K (wm K X (wm K (w2 K Y) (w2 K Y))))))) (wm K Y (wm K (wm K (w2 K Y) (w2 K Y)) (w2 K Y))) ++
  wm K (w2 K Y) Z
theorem dbR_ok (X Y Z : List Int) : dbR K X Y Z = fr3 K (twX K.F (K.va X) (K.va Y), twY K.F (K.va X) (K.va Y), twZ K.F (K.va Y) (K.va Z)) := by
  simp only [dbR, w2, w3, wm, ws, wa, mul_l, mul_r, sub_l, sub_r, add_l, add_r, fr3, twX, twY, twZ]
  simp only [four_, eight_]
  simp only [three_, twoz_]
/-- A fraction and a point. -/
def psR (X Y Z x2 y2 : List Int) : List Int :=
  ws K (ws K (wm K (rW K Y Z y2) (rW K Y Z y2)) (wm K (wm K (hW K X Z x2) (hW K X Z x2)) (hW K X Z x2))) (w2 K (wm K X (wm K (hW K X Z x2) (hW K X Z x2)))) ++
  ws K (wm K (rW K Y Z y2) (ws K (wm K X (wm K (hW K X Z x2) (hW K X Z x2))) (ws K (ws K (wm K (rW K Y Z y2) (rW K Y Z y2)) (wm K (wm K (hW K X Z x2) (hW K X Z x2)) (hW K X Z x2))) (w2 K (wm K X (wm K (hW K X Z x2) (hW K X Z x2))))))) (wm K Y (wm K (wm K (hW K X Z x2) (hW K X Z x2)) (hW K X Z x2))) ++
  wm K (hW K X Z x2) Z
theorem psR_ok (X Y Z x2 y2 : List Int) : psR K X Y Z x2 y2 = fr3 K (plX K.F (K.va X) (K.va Y) (K.va Z) (K.va x2) (K.va y2), plY K.F (K.va X) (K.va Y) (K.va Z) (K.va x2) (K.va y2), plZ K.F (K.va X) (K.va Z) (K.va x2)) := by
  rw [← plRw_ok, psR, wm_comm K (hW K X Z x2) Z]
  rfl
theorem nm_dbR (X Y Z : List Int) : Nm (K.n + K.n + K.n) (dbR K X Y Z) := ((K.wo_nm _).app (K.wo_nm _)).app (K.wo_nm _)
theorem nm_psR (X Y Z x2 y2 : List Int) : Nm (K.n + K.n + K.n) (psR K X Y Z x2 y2) := ((K.wo_nm _).app (K.wo_nm _)).app (K.wo_nm _)
def dbF (c0 l : List Int) : List Int := if seg (K.n + K.n) K.n l = c0 then l else dbR K (seg 0 K.n l) (seg K.n K.n l) (seg (K.n + K.n) K.n l)
def psF (c0 c1 l q : List Int) : List Int :=
  if seg (K.n + K.n) K.n l = c0 then seg 0 K.n q ++ seg K.n K.n q ++ c1
  else if hW K (seg 0 K.n l) (seg (K.n + K.n) K.n l) (seg 0 K.n q) = c0 ∧ rW K (seg K.n K.n l) (seg (K.n + K.n) K.n l) (seg K.n K.n q) = c0 then dbF K c0 l
  else psR K (seg 0 K.n l) (seg K.n K.n l) (seg (K.n + K.n) K.n l) (seg 0 K.n q) (seg K.n K.n q)
/-- Words that are a point's fraction, the last number below p. -/
def RepV (l : List Int) (C : Pt α) : Prop := Rep K.F (K.va (seg 0 K.n l)) (K.va (seg K.n K.n l)) (K.va (seg (K.n + K.n) K.n l)) C ∧ wr K (seg (K.n + K.n) K.n l) = seg (K.n + K.n) K.n l
theorem repV_fr3 {t : α × α × α} {C : Pt α} (h : Rep K.F t.1 t.2.1 t.2.2 C) : RepV K (fr3 K t) C := by
  obtain ⟨s1, s2, s3⟩ := seg3 K t
  rw [RepV, s1, s2, s3]
  exact ⟨rep_congr K.F (K.F.symm (K.va_wo _)) (K.F.symm (K.va_wo _)) (K.F.symm (K.va_wo _)) h, red_wo K _⟩
variable {c0 c1 : List Int} (h0 : K.wo (K.F.int 0) = c0) (h1 : K.wo (K.F.int 1) = c1)
include h0 in
theorem zv {z : List Int} (h : wr K z = z) : z = c0 ↔ K.F.Z (K.va z) := by
  rw [← wo_z, h0]
  exact ⟨fun e => by rw [← e]; exact h, fun e => h ▸ e⟩
theorem rep_z {X Y Z : α} {C : Pt α} (h : Rep K.F X Y Z C) (hz : K.F.Z Z) : C = none := by
  rcases C with _ | ⟨x, y⟩
  · rfl
  · exact absurd hz h.1
section
variable {c : α} (hc : ¬ K.F.Z c)
include h0 hc in
theorem rd_two {l : List Int} {m : Nat} {A C : Pt α} (a : OnP K.F c A) (hm : Mult K.F m A C) (h : RepV K l C) : ∃ D, Mult K.F (m + m) A D ∧ RepV K (dbF K c0 l) D := by
  obtain ⟨D, hD, hE⟩ := step_two K.F hc a hm h.1
  refine ⟨D, hD, ?_⟩
  unfold dbF
  by_cases e : seg (K.n + K.n) K.n l = c0
  · have hz := (zv K h0 h.2).1 e
    obtain rfl := rep_z K h.1 hz
    obtain rfl := rep_z K hE (K.F.zm' _ (K.F.zm' _ hz))
    rw [if_pos e]
    exact h
  · rw [if_neg e, dbR_ok]
    exact repV_fr3 K hE
include h0 h1 in
theorem rd_one {l x : List Int} {m : Nat} {C : Pt α} (hx : Nm (K.n + K.n) x) (a : OnP K.F c (ptv K x false)) (hm : Mult K.F m (ptv K x false) C) (h : RepV K l C) : ∃ D, Mult K.F (m + 1) (ptv K x false) D ∧ RepV K (psF K c0 c1 l x) D := by
  rw [ptv_f] at a hm ⊢
  obtain ⟨D, hD, hE⟩ := step_one K.F (x2 := K.va (seg 0 K.n x)) (y2 := K.va (seg K.n K.n x)) a ⟨K.F.refl _, K.F.refl _⟩ hm h.1
  refine ⟨D, hD, ?_⟩
  unfold psF
  unfold pl3 at hE
  by_cases e : seg (K.n + K.n) K.n l = c0
  · rw [if_pos ((zv K h0 h.2).1 e)] at hE
    rw [if_pos e]
    have g1 : (seg 0 K.n x).length = K.n := by rw [seg, List.length_take, List.length_drop, hx.len]; omega
    have g2 : (seg K.n K.n x).length = K.n := by rw [seg, List.length_take, List.length_drop, hx.len]; omega
    have g3 : c1.length = K.n := by rw [← h1]; exact len K _
    have s1 : seg 0 K.n (seg 0 K.n x ++ seg K.n K.n x ++ c1) = seg 0 K.n x := by
      rw [List.append_assoc]
      exact List.take_left' g1
    have s2 : seg K.n K.n (seg 0 K.n x ++ seg K.n K.n x ++ c1) = seg K.n K.n x := by
      rw [List.append_assoc, seg, List.drop_left' g1]
      exact List.take_left' g2
    have s3 : seg (K.n + K.n) K.n (seg 0 K.n x ++ seg K.n K.n x ++ c1) = c1 := by
      rw [seg, List.drop_left' (by rw [List.length_append, g1, g2]), List.take_of_length_le (by rw [g3]; exact Nat.le_refl _)]
    rw [RepV, s1, s2, s3]
    refine ⟨rep_congr K.F (K.F.refl _) (K.F.refl _) (K.F.symm ?_) hE, ?_⟩
    · rw [← h1]; exact K.va_wo _
    · rw [← h1]; exact red_wo K _
  · rw [if_neg (fun k => e ((zv K h0 h.2).2 k))] at hE
    rw [if_neg e]
    by_cases e2 : hW K (seg 0 K.n l) (seg (K.n + K.n) K.n l) (seg 0 K.n x) = c0
    · rw [if_pos ((wo_z K).1 ((hW_ok K _ _ _).symm.trans (e2.trans h0.symm)))] at hE
      by_cases e3 : rW K (seg K.n K.n l) (seg (K.n + K.n) K.n l) (seg K.n K.n x) = c0
      · rw [if_pos ((wo_z K).1 ((rW_ok K _ _ _).symm.trans (e3.trans h0.symm)))] at hE
        rw [if_pos ⟨e2, e3⟩, dbF, if_neg e, dbR_ok]
        exact repV_fr3 K hE
      · rw [if_neg (fun k => e3 ((rW_ok K _ _ _).trans (((wo_z K).2 k).trans h0)))] at hE
        obtain rfl := rep_z K hE K.F.z0
        rw [if_neg (fun k => e3 k.2), psR_ok]
        refine repV_fr3 K (C := none) ?_
        exact K.F.zm' _ ((wo_z K).1 ((hW_ok K _ _ _).symm.trans (e2.trans h0.symm)))
    · rw [if_neg (fun k => e2 ((hW_ok K _ _ _).trans (((wo_z K).2 k).trans h0)))] at hE
      rw [if_neg (fun k => e2 k.1), psR_ok]
      exact repV_fr3 K hE
end
include h0 in
theorem repV_none (hz : List.replicate K.n 0 = c0) : RepV K (List.replicate (K.n + K.n + K.n) 0) none := by
  have h := repV_fr3 K (t := (K.F.int 0, K.F.int 0, K.F.int 0)) (C := none) K.F.z0
  rw [fr3] at h
  simpa only [h0, ← hz, List.replicate_append_replicate] using h
include h0 in
theorem fn_z {c : α} {l : List Int} {m : Nat} {A C : Pt α} (a : OnP K.F c A) (hm : Mult K.F m A C) (h : RepV K l C) (e : seg (K.n + K.n) K.n l = c0) : ptW K (mulP K.F m A) = ptW K none ∧ ptB (mulP K.F m A) = true := by
  obtain rfl := rep_z K h.1 ((zv K h0 h.2).1 e)
  exact out_eq K (eqP_symm K.F (mulP_of K.F a hm))
include h0 in
theorem fn_n {c : α} {l : List Int} {m : Nat} {A C : Pt α} (a : OnP K.F c A) (hm : Mult K.F m A C) (h : RepV K l C) (e : ¬ seg (K.n + K.n) K.n l = c0) : ptW K (mulP K.F m A) = nmW K (seg 0 K.n l) (seg K.n K.n l) (seg (K.n + K.n) K.n l) ∧ ptB (mulP K.F m A) = false := by
  have hz : ¬ K.F.Z (K.va (seg (K.n + K.n) K.n l)) := fun k => e ((zv K h0 h.2).2 k)
  have h3 := norm_rep K.F h.1
  have h4 := out_eq K (eqP_trans K.F (eqP_symm K.F (mulP_of K.F a hm)) (eqP_symm K.F h3))
  rw [nmW_ok K _ _ _ hz]
  refine ⟨h4.1, h4.2.trans ?_⟩
  rw [normP, if_neg hz]
  rfl
end
end Go.Proofs.YtpgphhinelljoaaGreatDoor.Pts

/-
  Own text. The images Phi and Psi of points; points that r takes to nothing; the bases. Speaks of no program.
-/
namespace Go.Proofs.YtpgphhinelljoaaGreatDoor.SubM
set_option linter.unusedVariables false
set_option linter.unusedSectionVars false
set_option maxRecDepth 100000
open Go Go.Proofs.YtpgphhinelljoaaGreatDoor.Ring Go.Proofs.YtpgphhinelljoaaGreatDoor.Base Go.Proofs.YtpgphhinelljoaaGreatDoor.Limb Go.Proofs.YtpgphhinelljoaaGreatDoor.Fp Go.Proofs.YtpgphhinelljoaaGreatDoor.Fp2 Go.Proofs.YtpgphhinelljoaaGreatDoor.Ec Go.Proofs.YtpgphhinelljoaaGreatDoor.Pts
section
variable {α : Type} (F : Go.Proofs.YtpgphhinelljoaaGreatDoor.Ec.Fd α) {b : α} {f : Pt α → Pt α} {A B C D : Pt α} {r k m n : Nat}
/-- An image that keeps the curve and sums. -/
structure Im (b : α) (f : Pt α → Pt α) : Prop where
  eq : ∀ {A B}, EqP F A B → EqP F (f A) (f B)
  sum : ∀ {A B C}, Sum F A B C → Sum F (f A) (f B) (f C)
  on : ∀ {A}, OnP F b (f A) ↔ OnP F b A
  none : f none = none
theorem Im.of {e : α → α} (hm : Hm F F e) {s : α} (hs : ¬ F.Z s) (hb : F.eq (F.mul (e b) (F.mul (F.mul (F.mul s s) s) (F.mul (F.mul s s) s))) b) (hf : ∀ A, EqP F (utP e F s A) (f A)) (hn : f .none = .none) : Im F b f where
  eq := fun h => eqP_trans F (eqP_symm F (hf _)) (eqP_trans F (ut_eq F hm s h) (hf _))
  sum := fun h => sum_eq F (hf _) (hf _) (hf _) (ut_sum F hm s hs h)
  on := ⟨fun h => ut_of F hm s hs hb (onP_eq F (eqP_symm F (hf _)) h), fun h => onP_eq F (hf _) (ut_on F hm s hb h)⟩
  none := hn
theorem Im.mult (h : Im F b f) : ∀ {n : Nat} {C : Pt α}, Mult F n A C → Mult F n (f A) (f C)
  | 0, C, m => by
    have := h.eq m
    rwa [h.none] at this
  | n + 1, C, ⟨D, h1, h2⟩ => ⟨f D, Im.mult h h1, h.sum h2⟩
variable [DecidablePred F.Z]
theorem Im.add (h : Im F b f) (a : OnP F b A) (e : OnP F b B) : EqP F (f (addP F A B)) (addP F (f A) (f B)) := sum_un F (h.sum (add_sum F a e)) (add_sum F (h.on.2 a) (h.on.2 e))
theorem Im.mul (h : Im F b f) (a : OnP F b A) (n : Nat) : EqP F (f (mulP F n A)) (mulP F n (f A)) := mulP_of F (h.on.2 a) (h.mult F (mulP_mult F a n).1)
theorem tor_iff (a : OnP F b A) : Mult F r A none ↔ ptB (mulP F r A) = true := by
  have h1 := (mulP_mult F a r).1
  constructor
  · intro h
    have := mult_un F h h1
    rcases hm : mulP F r A with _ | x
    · rfl
    · rw [hm] at this
      exact this.elim
  · intro h
    rcases hm : mulP F r A with _ | x
    · rwa [hm] at h1
    · rw [hm] at h
      cases h
end
/-- How often: r. -/
def rN : Nat := 52435875175126190479447740508185965837690552500527637822603658699938581184513
/-- The number x, without its sign. -/
def xN : Nat := 15132376222941642752
instance decI : DecidablePred FI.Z := fun a => inferInstanceAs (Decidable (a % PP = 0))
instance decG : DecidablePred FG.Z := fun a => inferInstanceAs (Decidable (a.1 % PP = 0 ∧ a.2 % PP = 0))
def red1 (a : Int) : Int := a % PP
theorem hred1 (a : Int) : FI.eq a (red1 a) := by
  show (a + -1 * (a % PP)) % PP = 0
  have := Int.emod_add_mul_ediv a PP
  rw [show a + -1 * (a % PP) = PP * (a / PP) by omega]
  exact Int.mul_emod_right _ _
def red2 (a : G) : G := (a.1 % PP, a.2 % PP)
theorem hred2 (a : G) : FG.eq a (red2 a) := by
  have h1 := hred1 a.1
  have h2 := hred1 a.2
  have e : FG.add a (FG.mul (FG.int (-1)) (red2 a)) = (a.1 + -1 * (a.1 % PP), a.2 + -1 * (a.2 % PP)) := by
    show ga a (gm (-1, 0) (red2 a)) = _
    apply Prod.ext <;> simp [ga, gm, red2]
  show FG.Z _
  rw [e]
  exact ⟨h1, h2⟩
theorem hm_id : Hm FI FI (fun a => a) := ⟨fun _ _ => rfl, fun _ _ => rfl, fun _ => rfl, fun _ => Iff.rfl⟩
theorem hm_gc : Hm FG FG gc where
  add := fun a b => by
    show gc (ga a b) = ga (gc a) (gc b)
    apply Prod.ext <;> simp [ga, gc, Int.neg_add]
  mul := fun a b => by
    show gc (gm a b) = gm (gc a) (gc b)
    apply Prod.ext <;> simp [gm, gc, Int.neg_add, Int.mul_neg, Int.neg_mul]
  int := fun n => rfl
  z := fun a => by
    show (a.1 % PP = 0 ∧ a.2 % PP = 0) ↔ (a.1 % PP = 0 ∧ (-a.2) % PP = 0)
    exact ⟨fun h => ⟨h.1, Int.emod_eq_zero_of_dvd (Int.dvd_neg.2 (Int.dvd_of_emod_eq_zero h.2))⟩, fun h => ⟨h.1, Int.emod_eq_zero_of_dvd (Int.dvd_neg.1 (Int.dvd_of_emod_eq_zero h.2))⟩⟩
/-- The document's numbers, as words: of Phi, of Psi. -/
def BW : List Int := [3315212275698040830, 16003497378645147650, 15975298377956497032, 13432485098755684330, 6852621763331149393, 0]
def XW : List Int := [0, 0, 0, 0, 0, 0, 10087218740379822765, 4653388206581612541, 9907120269317136283, 12253596935368579796, 17006226088849104517, 1873798617647539865]
def YW : List Int := [17433006465011670690, 3478017852528130570, 17237919592439788638, 2035044123721977696, 16350815739277094105, 1392179521213474446, 14416168624775744521, 17178867732698629620, 8644499054833844677, 5204293836692734814, 7508032112903159806, 481619096434065419]
def s1 : Int := 4002409555221667392624310435006688643935503118305586438271171395842971157480381377015405980053539358417135540939436
def s2 : G := (877076961050607968509681729531255177986764537961432449499635504522207616027455086505066378536590128544573588734230, 877076961050607968509681729531255177986764537961432449499635504522207616027455086505066378536590128544573588734230)
def phA : Pt Int → Pt Int
  | none => none
  | some (x, y) => some (FI.mul x (num BW), y)
def psA : Pt G → Pt G
  | none => none
  | some (x, y) => some (FG.mul (gc x) (v2 XW), FG.mul (gc y) (v2 YW))
theorem ph_s : FI.eq (FI.mul s1 s1) (num BW) ∧ FI.eq (FI.mul (FI.mul s1 s1) s1) (FI.int 1) := by
  show FI.Z _ ∧ FI.Z _
  decide +kernel
theorem ps_s : FG.eq (FG.mul s2 s2) (v2 XW) ∧ FG.eq (FG.mul (FG.mul s2 s2) s2) (v2 YW) := by
  show FG.Z _ ∧ FG.Z _
  decide +kernel
theorem im_ph : Im FI 4 phA := .of FI hm_id (s := s1) (by decide +kernel) (by show FI.Z _; decide +kernel) (fun A => by
  rcases A with _ | ⟨x, y⟩
  · trivial
  · refine ⟨FI.mul_eq (FI.refl _) ph_s.1, ?_⟩
    have := FI.mul_eq (FI.refl y) ph_s.2
    rwa [show FI.mul y (FI.int 1) = y from Int.mul_one y] at this) rfl
theorem im_ps : Im FG (4, 4) psA := .of FG hm_gc (s := s2) (by decide +kernel) (by show FG.Z _; decide +kernel) (fun A => by
  rcases A with _ | ⟨x, y⟩
  · trivial
  · exact ⟨FG.mul_eq (FG.refl _) ps_s.1, FG.mul_eq (FG.refl _) ps_s.2⟩) rfl
theorem hb1 : ¬ FI.Z 4 := by decide +kernel
theorem hb2 : ¬ FG.Z (4, 4) := by decide +kernel
def x1 : Int := 3685416753713387016781088315183077757961620795782546409894578378688607592378376318836054947676345821548104185464507
def y1 : Int := 1339506544944476473020471379941921221584933875938349620426543736416511423956333506472724655353366534992391756441569
def x2 : G := (352701069587466618187139116011060144890029952792775240219908644239793785735715026873347600343865175952761926303160, 3059144344244213709971259814753781636986470325476647558659373206291635324768958432433509563104347017837885763365758)
def y2 : G := (1985150602287291935568054521177171638300868978215655730859378665066344726373823718423869104263333984641494340347905, 927553665492332455747201965776037880757740193453592970025027978793976877002675564980949289727957565575433344219582)
theorem on1 : OnP FI 4 (some (x1, y1)) := by
  show FI.Z _
  decide +kernel
theorem on2 : OnP FG (4, 4) (some (x2, y2)) := by
  show FG.Z _
  decide +kernel
theorem tor1 : Mult FI rN (some (x1, y1)) none := jn_nil FI hb1 hred1 on1 (f := 260) (by decide +kernel) (by decide +kernel) (by decide +kernel)
theorem tor2 : Mult FG rN (some (x2, y2)) none := jn_nil FG hb2 hred2 on2 (f := 260) (by decide +kernel) (by decide +kernel) (by decide +kernel)
def d1 : Pt Int := some (2955502424945903910818211227715611350235962252786689152026508822630880086494552779684133657799159957258494931727904, 2662903010277190920397318445793982934971948944000658264905514399707520226534504357969962973775649129045502516118218)
def d2 : Pt G := some ((3173817679043455518561028855769621774971450671729042202579931057243242334374140167576873990769662989875082501930087, 1061903119136554661252589027312479841350528275070755452158378537709581847493347774609704687139029127751805506262137), (2433393532946135937969546957635234136897321940025952659409177298338507215042517770421013533566896591233554661788102, 3194553889017460652502693541215092109821324752267022735294656496392020697692657217737993669207895809888989201996591))
theorem mu1 : Mult FI (xN * xN) (some (x1, y1)) d1 := jn_at FI hb1 hred1 on1 (f := 130) (by decide +kernel) (by decide +kernel) (by decide +kernel) (by show FI.Z _; decide +kernel) (by show FI.Z _; decide +kernel)
theorem mu2 : Mult FG xN (some (x2, y2)) d2 := jn_at FG hb2 hred2 on2 (f := 66) (by decide +kernel) (by decide +kernel) (by decide +kernel) (by show FG.Z _; decide +kernel) (by show FG.Z _; decide +kernel)
theorem ph1 : EqP FI (phA (some (x1, y1))) (negP FI d1) := by
  show FI.Z _ ∧ FI.Z _
  decide +kernel
theorem ps2 : EqP FG (psA (some (x2, y2))) (negP FG d2) := by
  show FG.Z _ ∧ FG.Z _
  decide +kernel
end Go.Proofs.YtpgphhinelljoaaGreatDoor.SubM

/-
  Own text. Whether r times a point is nothing, as statements compare it. Speaks of no program.
-/
namespace Go.Proofs.YtpgphhinelljoaaGreatDoor.SubM
set_option linter.unusedVariables false
set_option linter.unusedSectionVars false
open Go Go.Proofs.YtpgphhinelljoaaGreatDoor.Ring Go.Proofs.YtpgphhinelljoaaGreatDoor.Base Go.Proofs.YtpgphhinelljoaaGreatDoor.Limb Go.Proofs.YtpgphhinelljoaaGreatDoor.Fp Go.Proofs.YtpgphhinelljoaaGreatDoor.Fp2 Go.Proofs.YtpgphhinelljoaaGreatDoor.Ec Go.Proofs.YtpgphhinelljoaaGreatDoor.Pts
section
variable {α : Type} (K : Nk α) {c : α} {r : Nat} {A B : Pt α}
def inB (c : α) (r : Nat) (A : Pt α) : Bool := onB K c A && ptB (mulP K.F r A)
theorem inB_iff : inB K c r A = true ↔ OnP K.F c A ∧ Mult K.F r A none := by
  rw [inB, Bool.and_eq_true, onB_iff]
  exact ⟨fun h => ⟨h.1, (tor_iff K.F h.1).2 h.2⟩, fun h => ⟨h.1, (tor_iff K.F h.1).1 h.2⟩⟩
theorem inB_off (h : onB K c A = false) : inB K c r A = false := by rw [inB, h, Bool.false_and]
theorem inB_on (h : onB K c A = true) : inB K c r A = ptB (mulO K c r A) := by rw [inB, h, Bool.true_and, mulO, if_pos h]
theorem mo_on (h : onB K c A = true) (m : Nat) : onB K c (mulO K c m A) = true := by rw [mulO, if_pos h]; exact (onB_iff K).2 (mul_on K ((onB_iff K).1 h) m)
theorem mo_on_v (h : onB K c A = true) (m : Nat) : onB K c (vo K (mulO K c m A)) = true := (on_v K _).trans (mo_on K h m)
theorem in_none : inB K c r none = true := (inB_iff K).2 ⟨trivial, mult_none K.F r⟩
section
variable (hc : ¬ K.F.Z c)
include hc
end
theorem in_on (a : inB K c r A = true) : onB K c A = true := (onB_iff K).2 ((inB_iff K).1 a).1
variable {f : Pt α → Pt α} {D : Pt α} {m k : Nat}
end
end Go.Proofs.YtpgphhinelljoaaGreatDoor.SubM

