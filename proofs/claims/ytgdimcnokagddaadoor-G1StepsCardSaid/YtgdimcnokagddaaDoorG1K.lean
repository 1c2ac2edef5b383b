/-
  Own text. Layer 12: the numbers of fp as words; their calls.
-/
import Derived.Test.YtgdimcnokagddaaDoorMPt
import Derived.Test.YtgdimcnokagddaaDoorMSx
import Derived.Test.YtgdimcnokagddaaDoorFpGD
import Derived.Test.YtgdimcnokagddaaDoorMFpN
import Derived.Test.YtgdimcnokagddaaDoorFp2Alg
namespace Go.Proofs.YtgdimcnokagddaaDoor.G1K
set_option linter.unusedVariables false
set_option linter.unusedSimpArgs false
open Go Go.RowKit Go.Proofs.YtgdimcnokagddaaDoor.Reg Go.Proofs.YtgdimcnokagddaaDoor.Base Go.Proofs.YtgdimcnokagddaaDoor.Limb Go.Proofs.YtgdimcnokagddaaDoor.Sx Go.Proofs.YtgdimcnokagddaaDoor.Fp Go.Proofs.YtgdimcnokagddaaDoor.Fp2 Go.Proofs.YtgdimcnokagddaaDoor.Ec Go.Proofs.YtgdimcnokagddaaDoor.Pts

instance decZ : DecidablePred FI.Z := fun a => inferInstanceAs (Decidable (a % PP = 0))
theorem feq {a b : Int} : FI.eq a b ↔ a % PP = b % PP := by
  rw [Int.emod_eq_emod_iff_emod_sub_eq_zero, Int.sub_eq_add_neg, ← Int.neg_one_mul]
  exact Iff.rfl
def K1 : Nk Int where
  F := FI
  n := 6
  wo := Fp.fe
  va := num
  wo_nm := fun a => .fe a
  wo_eq := fun h => fe_congr (feq.1 h)
  eq_wo := fun h => feq.2 (fe_inj h)
  va_wo := fun a => feq.2 (by rw [num_fe, Int.emod_emod])
  inv_eq := fun h => feq.2 (pw_congr (feq.1 h) _)
  dec := decZ
theorem fsub (a b : Int) : FI.sub a b = a - b := by
  show a + -1 * b = a - b
  omega
theorem num_k (k : Int) : num [k, 0, 0, 0, 0, 0] = k := by
  simp [num, low, nth, wp]
theorem va_k (k : Int) : K1.va [k, 0, 0, 0, 0, 0] = K1.F.int k := num_k k
def c0 : List Int := [0, 0, 0, 0, 0, 0]
def c1 : List Int := [1, 0, 0, 0, 0, 0]
def c2 : List Int := [2, 0, 0, 0, 0, 0]
def c3 : List Int := [3, 0, 0, 0, 0, 0]
def c4 : List Int := [4, 0, 0, 0, 0, 0]
def c8 : List Int := [8, 0, 0, 0, 0, 0]
theorem h0 : K1.wo (K1.F.int 0) = c0 := by decide +kernel
theorem h2 : K1.va c2 = K1.F.int 2 := va_k 2
theorem h3 : K1.va c3 = K1.F.int 3 := va_k 3
theorem h4 : K1.va c4 = K1.F.int 4 := va_k 4
theorem h8 : K1.va c8 = K1.F.int 8 := va_k 8
/-- A point, answered. -/
def PA (A : Pt Int) : AV := .agg [.nums 12 (ptW K1 A), .nm (.bl (ptB A))]
theorem pa_ok (A : Pt Int) (n : Nat) : (PA A).Ok n := ⟨nm_ptW K1 A, trivial, trivial⟩
theorem pa_den (A : Pt Int) (gs : List Nat) : (PA A).den gs = .agg (vals .u64 (ptW K1 A) ++ #[.bool (ptB A)]) := by simp [PA, AV.den, den, Sg.den, NV.den, vals]
set_option maxRecDepth 100000 in
theorem eqG : EqOB Tryd.prog 10000 27 12 := eqob_two (d := 9998) (n := 6) (eqok_arr (d := 9997) Tryd.underlying25 Tryd.underlying23 (by kernel_rfl) (by kernel_rfl)) Tryd.underlying25 rfl (by kernel_rfl) Tryd.underlying4 Tryd.underlying27 (by kernel_rfl) (by kernel_rfl)
set_option maxRecDepth 100000 in
theorem gdG : Tryd.prog.eqGuardType Tryd.prog.depth 27 = false := by kernel_rfl
set_option maxRecDepth 100000 in
theorem eqF : EqOK Tryd.prog 10000 25 6 := eqok_arr (d := 9998) Tryd.underlying25 Tryd.underlying23 (by kernel_rfl) (by kernel_rfl)
set_option maxRecDepth 100000 in
theorem gdF : Tryd.prog.eqGuardType Tryd.prog.depth 25 = false := by kernel_rfl
/-- A function of one point, of two. -/
def o1 (f : List Int → Bool → AV) : List AA → AV
  | [.p x b] => f x b
  | _ => .unk
def o2 (f : List Int → Bool → List Int → Bool → AV) : List AA → AV
  | [.p x b, .p y c] => f x b y c
  | _ => .unk
abbrev Pre0 : List AA → List Ob := fun _ => []
section
variable {P : Program} {G : World → Prop} {F : FuncId}
theorem con1 {f : List Int → Bool → AV} (h0 : ∀ x b n, (f x b).Ok n) (h1 : ∀ x b gs, (f x b).den gs = (f x b).den []) (h : ∀ x, Nm 12 x → ∀ b w, G w → Calls P F #[.agg (vals .u64 x ++ #[.bool b])] w fun e w' => e = .returned ((f x b).den []) ∧ RowKit.Below w.heap.size w w') : ConG P G F [.p 12] Pre0 (o1 f) := by
  intro l hl _
  match l, hl with
  | [.p x b], ⟨hx, _⟩ =>
    refine ⟨h0 x b, h1 x b, fun w hG vs hv => ?_⟩
    match vs, hv with
    | [v], ⟨hv, _⟩ =>
      obtain rfl := hv
      exact h x hx b w hG
theorem con2 {f : List Int → Bool → List Int → Bool → AV} (h0 : ∀ x b y c n, (f x b y c).Ok n) (h1 : ∀ x b y c gs, (f x b y c).den gs = (f x b y c).den []) (h : ∀ x, Nm 12 x → ∀ b y, Nm 12 y → ∀ c w, G w → Calls P F #[.agg (vals .u64 x ++ #[.bool b]), .agg (vals .u64 y ++ #[.bool c])] w fun e w' => e = .returned ((f x b y c).den []) ∧ RowKit.Below w.heap.size w w') : ConG P G F [.p 12, .p 12] Pre0 (o2 f) := by
  intro l hl _
  match l, hl with
  | [.p x b, .p y c], ⟨hx, hy, _⟩ =>
    refine ⟨h0 x b y c, h1 x b y c, fun w hG vs hv => ?_⟩
    match vs, hv with
    | [v, u], ⟨hv, hu, _⟩ =>
      obtain rfl := hv
      obtain rfl := hu
      exact h x hx b y hy c w hG
end
theorem p_den {x : List Int} {b : Bool} {gs : List Nat} : (AV.agg [.nums 12 x, .nm (.bl b)]).den gs = .agg (vals .u64 x ++ #[.bool b]) := by simp [AV.den, den, Sg.den, NV.den, vals]
theorem noSS {G : World → Prop} {w : World} (h : G w) : GS G [] w := ⟨h, fun s hs => by cases hs⟩
theorem rReduce : Con Tryd.prog GlobD 39 [6] (f1 fun x => W 6 (wr K1 x)) := .un (fun _ _ => K1.wo_nm _) (fun x h w _ => Fp2.rRed h w)
theorem rAdd : Con Tryd.prog GlobD 43 [6, 6] (f2 fun x y => W 6 (wa K1 x y)) := .bi (fun _ _ _ _ => K1.wo_nm _) (fun x h y k w _ => Fp2.rAdd h k w)
theorem rSub : Con Tryd.prog GlobD 35 [6, 6] (f2 fun x y => W 6 (ws K1 x y)) := .bi (fun _ _ _ _ => K1.wo_nm _) (fun x h y k w _ => by rw [show ws K1 x y = Fp.fe (num x - num y) from congrArg Fp.fe (fsub _ _)]; exact Fp2.rSub h k w)
theorem rNeg : Con Tryd.prog GlobD 40 [6] (f1 fun x => W 6 (wn K1 x)) := .un (fun _ _ => K1.wo_nm _) (fun x h w _ => by rw [show wn K1 x = Fp.fe (-num x) from congrArg Fp.fe ((fsub _ _).trans (Int.zero_sub _))]; exact Fp2.rNeg h w)
theorem rMul : Con Tryd.prog GlobD 36 [6, 6] (f2 fun x y => W 6 (wm K1 x y)) := .bi (fun _ _ _ _ => K1.wo_nm _) (fun x h y k w _ => Fp2.rMul h k w)
theorem rInv : Con Tryd.prog GlobD 50 [6] (f1 fun x => W 6 (wi K1 x)) := .un (fun _ _ => K1.wo_nm _) (fun x h w _ => Fp2.rInv h w)
end Go.Proofs.YtgdimcnokagddaaDoor.G1K
