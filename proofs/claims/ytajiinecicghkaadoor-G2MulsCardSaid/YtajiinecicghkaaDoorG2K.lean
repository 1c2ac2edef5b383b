/-
  Own text. Layer 13: the numbers of fp2 as words; their calls.
-/
import Derived.Test.YtajiinecicghkaaDoorMPt
import Derived.Test.YtajiinecicghkaaDoorMSx
import Derived.Test.YtajiinecicghkaaDoorFpGD
import Derived.Test.YtajiinecicghkaaDoorMFp2M
import Derived.Test.YtajiinecicghkaaDoorS7
namespace Go.Proofs.YtajiinecicghkaaDoor.G2K
set_option linter.unusedVariables false
set_option linter.unusedSimpArgs false
open Go Go.RowKit Go.Proofs.YtajiinecicghkaaDoor.Reg Go.Proofs.YtajiinecicghkaaDoor.Base Go.Proofs.YtajiinecicghkaaDoor.Limb Go.Proofs.YtajiinecicghkaaDoor.Sx Go.Proofs.YtajiinecicghkaaDoor.Fp Go.Proofs.YtajiinecicghkaaDoor.Fp2 Go.Proofs.YtajiinecicghkaaDoor.Ec Go.Proofs.YtajiinecicghkaaDoor.Pts

instance decZ : DecidablePred FG.Z := fun a => inferInstanceAs (Decidable (a.1 % PP = 0 ∧ a.2 % PP = 0))
theorem fsub (a b : Fp2.G) : FG.sub a b = gs a b := by
  show ga a (gm (-1, 0) b) = gs a b
  apply Prod.ext <;> simp [ga, gm, gs, Int.sub_eq_add_neg]
theorem feq {a b : Fp2.G} : FG.eq a b ↔ E2 a b := by
  have h : FG.add a (FG.mul (FG.int (-1)) b) = gs a b := fsub a b
  rw [Fd.eq, h]
  show ((a.1 - b.1) % PP = 0 ∧ (a.2 - b.2) % PP = 0) ↔ (a.1 % PP = b.1 % PP ∧ a.2 % PP = b.2 % PP)
  rw [Int.emod_eq_emod_iff_emod_sub_eq_zero, Int.emod_eq_emod_iff_emod_sub_eq_zero]
def K2 : Nk Fp2.G where
  F := FG
  n := 12
  wo := F2
  va := v2
  wo_nm := fun a => .F2 a
  wo_eq := fun h => F2_eq (feq.1 h)
  eq_wo := fun h => feq.2 (F2_inj h)
  va_wo := fun a => feq.2 (v2_F2 a)
  inv_eq := fun h => feq.2 (gi_congr (feq.1 h))
  dec := decZ
theorem va_k (k : Int) : K2.va [k, 0, 0, 0, 0, 0, 0, 0, 0, 0, 0, 0] = K2.F.int k := by
  show (num [k, 0, 0, 0, 0, 0], num [0, 0, 0, 0, 0, 0]) = (k, 0)
  simp [num, low, nth, wp]
def c0 : List Int := [0, 0, 0, 0, 0, 0, 0, 0, 0, 0, 0, 0]
def c1 : List Int := [1, 0, 0, 0, 0, 0, 0, 0, 0, 0, 0, 0]
def c2 : List Int := [2, 0, 0, 0, 0, 0, 0, 0, 0, 0, 0, 0]
def c3 : List Int := [3, 0, 0, 0, 0, 0, 0, 0, 0, 0, 0, 0]
def c4 : List Int := [4, 0, 0, 0, 0, 0, 0, 0, 0, 0, 0, 0]
def c8 : List Int := [8, 0, 0, 0, 0, 0, 0, 0, 0, 0, 0, 0]
theorem h0 : K2.wo (K2.F.int 0) = c0 := by decide +kernel
theorem h2 : K2.va c2 = K2.F.int 2 := va_k 2
theorem h3 : K2.va c3 = K2.F.int 3 := va_k 3
theorem h4 : K2.va c4 = K2.F.int 4 := va_k 4
theorem h8 : K2.va c8 = K2.F.int 8 := va_k 8
/-- The curve's number. -/
def bb : Fp2.G := (4, 4)
def cb : List Int := [4, 0, 0, 0, 0, 0, 4, 0, 0, 0, 0, 0]
theorem hb : K2.va cb = bb := by decide +kernel
/-- A point, answered. -/
def PA (A : Pt Fp2.G) : AV := .agg [.nums 24 (ptW K2 A), .nm (.bl (ptB A))]
theorem pa_ok (A : Pt Fp2.G) (n : Nat) : (PA A).Ok n := ⟨nm_ptW K2 A, trivial, trivial⟩
theorem pa_den (A : Pt Fp2.G) (gs : List Nat) : (PA A).den gs = .agg (vals .u64 (ptW K2 A) ++ #[.bool (ptB A)]) := by simp [PA, AV.den, den, Sg.den, NV.den, vals]
set_option maxRecDepth 100000 in
theorem eqG : EqOB Tryd.prog 10000 29 24 := eqob_two (n := 12) (eqok_two (d := 9998) (n := 6) (eqok_arr (d := 9996) Tryd.underlying25 Tryd.underlying23 (by kernel_rfl) (by kernel_rfl)) Tryd.underlying25 rfl (by kernel_rfl) Tryd.underlying27 (by kernel_rfl) (by kernel_rfl)) Tryd.underlying27 rfl (by kernel_rfl) Tryd.underlying4 Tryd.underlying29 (by kernel_rfl) (by kernel_rfl)
set_option maxRecDepth 100000 in
theorem gdG : Tryd.prog.eqGuardType Tryd.prog.depth 29 = false := by kernel_rfl
set_option maxRecDepth 100000 in
theorem eqF : EqOK Tryd.prog 10000 27 12 := eqok2
set_option maxRecDepth 100000 in
theorem gdF : Tryd.prog.eqGuardType Tryd.prog.depth 27 = false := by kernel_rfl
/-- A function of one point, of two. -/
def o1 (f : List Int → Bool → AV) : List AA → AV
  | [.p x b] => f x b
  | _ => .unk
def o2 (f : List Int → Bool → List Int → Bool → AV) : List AA → AV
  | [.p x b, .p y c] => f x b y c
  | _ => .unk
abbrev Pre0 : List AA → List Ob := fun _ => []
section
variable {P : Program} {G : World → Prop} {F : FuncId}
theorem con1 {f : List Int → Bool → AV} (h0 : ∀ x b n, (f x b).Ok n) (h1 : ∀ x b gs, (f x b).den gs = (f x b).den []) (h : ∀ x, Nm 24 x → ∀ b w, G w → Calls P F #[.agg (vals .u64 x ++ #[.bool b])] w fun e w' => e = .returned ((f x b).den []) ∧ RowKit.Below w.heap.size w w') : ConG P G F [.p 24] Pre0 (o1 f) := by
  intro l hl _
  match l, hl with
  | [.p x b], ⟨hx, _⟩ =>
    refine ⟨h0 x b, h1 x b, fun w hG vs hv => ?_⟩
    match vs, hv with
    | [v], ⟨hv, _⟩ =>
      obtain rfl := hv
      exact h x hx b w hG
theorem con2 {f : List Int → Bool → List Int → Bool → AV} (h0 : ∀ x b y c n, (f x b y c).Ok n) (h1 : ∀ x b y c gs, (f x b y c).den gs = (f x b y c).den []) (h : ∀ x, Nm 24 x → ∀ b y, Nm 24 y → ∀ c w, G w → Calls P F #[.agg (vals .u64 x ++ #[.bool b]), .agg (vals .u64 y ++ #[.bool c])] w fun e w' => e = .returned ((f x b y c).den []) ∧ RowKit.Below w.heap.size w w') : ConG P G F [.p 24, .p 24] Pre0 (o2 f) := by
  intro l hl _
  match l, hl with
  | [.p x b, .p y c], ⟨hx, hy, _⟩ =>
    refine ⟨h0 x b y c, h1 x b y c, fun w hG vs hv => ?_⟩
    match vs, hv with
    | [v, u], ⟨hv, hu, _⟩ =>
      obtain rfl := hv
      obtain rfl := hu
      exact h x hx b y hy c w hG
end
theorem p_den {x : List Int} {b : Bool} {gs : List Nat} : (AV.agg [.nums 24 x, .nm (.bl b)]).den gs = .agg (vals .u64 x ++ #[.bool b]) := by simp [AV.den, den, Sg.den, NV.den, vals]
theorem noSS {G : World → Prop} {w : World} (h : G w) : GS G [] w := ⟨h, fun s hs => by cases hs⟩
theorem rReduce : Con Tryd.prog GlobD 39 [12] (f1 fun x => W 12 (wr K2 x)) := S7.qReduce
theorem rAdd : Con Tryd.prog GlobD 43 [12, 12] (f2 fun x y => W 12 (wa K2 x y)) := S7.qAdd
theorem rSub : Con Tryd.prog GlobD 35 [12, 12] (f2 fun x y => W 12 (ws K2 x y)) := by rw [show (f2 fun x y => W 12 (ws K2 x y)) = f2 fun x y => W 12 (F2 (gs (v2 x) (v2 y))) from congrArg f2 (funext fun x => funext fun y => congrArg (W 12) (congrArg F2 (fsub _ _)))]; exact S7.qSub
theorem rNeg : Con Tryd.prog GlobD 40 [12] (f1 fun x => W 12 (wn K2 x)) := by rw [show (f1 fun x => W 12 (wn K2 x)) = f1 fun x => W 12 (F2 (gn (v2 x))) from congrArg f1 (funext fun x => congrArg (W 12) (congrArg F2 ((fsub _ _).trans (by show ((0 : Int) - (v2 x).1, (0 : Int) - (v2 x).2) = (-(v2 x).1, -(v2 x).2); rw [Int.zero_sub, Int.zero_sub]))))]; exact S7.qNeg
theorem rMul : Con Tryd.prog GlobD 36 [12, 12] (f2 fun x y => W 12 (wm K2 x y)) := S7.qMul
theorem rInv : Con Tryd.prog GlobD 50 [12] (f1 fun x => W 12 (wi K2 x)) := S7.qInv
end Go.Proofs.YtajiinecicghkaaDoor.G2K
