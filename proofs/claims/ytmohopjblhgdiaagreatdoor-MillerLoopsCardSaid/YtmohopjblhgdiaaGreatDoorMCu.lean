/-
  Own text. Layer 12: the numbers of fp as words; their calls.
-/
import Derived.Test.YtmohopjblhgdiaaGreatDoorMPt
import Derived.Test.YtmohopjblhgdiaaGreatDoorMSx
import Derived.Test.YtmohopjblhgdiaaGreatDoorFpGD
import Derived.Test.YtmohopjblhgdiaaGreatDoorMFpN
import Derived.Test.YtmohopjblhgdiaaGreatDoorFp2Alg
import Derived.Test.YtmohopjblhgdiaaGreatDoorMFp2M
import Derived.Test.YtmohopjblhgdiaaGreatDoorS7
import Derived.Test.YtmohopjblhgdiaaGreatDoorMFpR
import Derived.Test.YtmohopjblhgdiaaGreatDoorMReg
import Derived.Test.YtmohopjblhgdiaaGreatDoorFp2AlgI
namespace Go.Proofs.YtmohopjblhgdiaaGreatDoor.G1K
set_option linter.unusedVariables false
set_option linter.unusedSimpArgs false
open Go Go.RowKit Go.Proofs.YtmohopjblhgdiaaGreatDoor.Reg Go.Proofs.YtmohopjblhgdiaaGreatDoor.Base Go.Proofs.YtmohopjblhgdiaaGreatDoor.Limb Go.Proofs.YtmohopjblhgdiaaGreatDoor.Sx Go.Proofs.YtmohopjblhgdiaaGreatDoor.Fp Go.Proofs.YtmohopjblhgdiaaGreatDoor.Fp2 Go.Proofs.YtmohopjblhgdiaaGreatDoor.Ec Go.Proofs.YtmohopjblhgdiaaGreatDoor.Pts

instance decZ : DecidablePred FI.Z := fun a => inferInstanceAs (Decidable (a % PP = 0))
theorem feq {a b : Int} : FI.eq a b ↔ a % PP = b % PP := by
  rw [Int.emod_eq_emod_iff_emod_sub_eq_zero, Int.sub_eq_add_neg, ← Int.neg_one_mul]
  exact Iff.rfl
def K1 : Nk Int where
  F := FI
  n := 6
  wo := Fp.fe
  va := num
  wo_nm := fun a => .fe a
  wo_eq := fun h => fe_congr (feq.1 h)
  eq_wo := fun h => feq.2 (fe_inj h)
  va_wo := fun a => feq.2 (by rw [num_fe, Int.emod_emod])
  inv_eq := fun h => feq.2 (pw_congr (feq.1 h) _)
  dec := decZ
theorem fsub (a b : Int) : FI.sub a b = a - b := by
  show a + -1 * b = a - b
  omega
theorem num_k (k : Int) : num [k, 0, 0, 0, 0, 0] = k := by
  simp [num, low, nth, wp]
theorem va_k (k : Int) : K1.va [k, 0, 0, 0, 0, 0] = K1.F.int k := num_k k
def c0 : List Int := [0, 0, 0, 0, 0, 0]
def c1 : List Int := [1, 0, 0, 0, 0, 0]
def c2 : List Int := [2, 0, 0, 0, 0, 0]
def c3 : List Int := [3, 0, 0, 0, 0, 0]
def c4 : List Int := [4, 0, 0, 0, 0, 0]
def c8 : List Int := [8, 0, 0, 0, 0, 0]
theorem h0 : K1.wo (K1.F.int 0) = c0 := by decide +kernel
theorem h2 : K1.va c2 = K1.F.int 2 := va_k 2
theorem h3 : K1.va c3 = K1.F.int 3 := va_k 3
theorem h4 : K1.va c4 = K1.F.int 4 := va_k 4
theorem h8 : K1.va c8 = K1.F.int 8 := va_k 8
/-- A point, answered. -/
def PA (A : Pt Int) : AV := .agg [.nums 12 (ptW K1 A), .nm (.bl (ptB A))]
theorem pa_ok (A : Pt Int) (n : Nat) : (PA A).Ok n := ⟨nm_ptW K1 A, trivial, trivial⟩
theorem pa_den (A : Pt Int) (gs : List Nat) : (PA A).den gs = .agg (vals .u64 (ptW K1 A) ++ #[.bool (ptB A)]) := by simp [PA, AV.den, den, Sg.den, NV.den, vals]
set_option maxRecDepth 100000 in
theorem eqG : EqOB Tryz.prog 10000 30 12 := eqob_two (d := 9998) (n := 6) (eqok_arr (d := 9997) Tryz.underlying24 Tryz.underlying22 (by kernel_rfl) (by kernel_rfl)) Tryz.underlying24 rfl (by kernel_rfl) Tryz.underlying4 Tryz.underlying30 (by kernel_rfl) (by kernel_rfl)
set_option maxRecDepth 100000 in
theorem gdG : Tryz.prog.eqGuardType Tryz.prog.depth 30 = false := by kernel_rfl
set_option maxRecDepth 100000 in
theorem eqF : EqOK Tryz.prog 10000 24 6 := eqok_arr (d := 9998) Tryz.underlying24 Tryz.underlying22 (by kernel_rfl) (by kernel_rfl)
set_option maxRecDepth 100000 in
theorem gdF : Tryz.prog.eqGuardType Tryz.prog.depth 24 = false := by kernel_rfl
/-- A function of one point, of two. -/
def o1 (f : List Int → Bool → AV) : List AA → AV
  | [.p x b] => f x b
  | _ => .unk
def o2 (f : List Int → Bool → List Int → Bool → AV) : List AA → AV
  | [.p x b, .p y c] => f x b y c
  | _ => .unk
abbrev Pre0 : List AA → List Ob := fun _ => []
section
variable {P : Program} {G : World → Prop} {F : FuncId}
theorem con1 {f : List Int → Bool → AV} (h0 : ∀ x b n, (f x b).Ok n) (h1 : ∀ x b gs, (f x b).den gs = (f x b).den []) (h : ∀ x, Nm 12 x → ∀ b w, G w → Calls P F #[.agg (vals .u64 x ++ #[.bool b])] w fun e w' => e = .returned ((f x b).den []) ∧ RowKit.Below w.heap.size w w') : ConG P G F [.p 12] Pre0 (o1 f) := by
  intro l hl _
  match l, hl with
  | [.p x b], ⟨hx, _⟩ =>
    refine ⟨h0 x b, h1 x b, fun w hG vs hv => ?_⟩
    match vs, hv with
    | [v], ⟨hv, _⟩ =>
      obtain rfl := hv
      exact h x hx b w hG
theorem con2 {f : List Int → Bool → List Int → Bool → AV} (h0 : ∀ x b y c n, (f x b y c).Ok n) (h1 : ∀ x b y c gs, (f x b y c).den gs = (f x b y c).den []) (h : ∀ x, Nm 12 x → ∀ b y, Nm 12 y → ∀ c w, G w → Calls P F #[.agg (vals .u64 x ++ #[.bool b]), .agg (vals .u64 y ++ #[.bool c])] w fun e w' => e = .returned ((f x b y c).den []) ∧ RowKit.Below w.heap.size w w') : ConG P G F [.p 12, .p 12] Pre0 (o2 f) := by
  intro l hl _
  match l, hl with
  | [.p x b, .p y c], ⟨hx, hy, _⟩ =>
    refine ⟨h0 x b y c, h1 x b y c, fun w hG vs hv => ?_⟩
    match vs, hv with
    | [v, u], ⟨hv, hu, _⟩ =>
      obtain rfl := hv
      obtain rfl := hu
      exact h x hx b y hy c w hG
end
theorem p_den {x : List Int} {b : Bool} {gs : List Nat} : (AV.agg [.nums 12 x, .nm (.bl b)]).den gs = .agg (vals .u64 x ++ #[.bool b]) := by simp [AV.den, den, Sg.den, NV.den, vals]
theorem noSS {G : World → Prop} {w : World} (h : G w) : GS G [] w := ⟨h, fun s hs => by cases hs⟩
theorem rReduce : Con Tryz.prog GlobD 34 [6] (f1 fun x => W 6 (wr K1 x)) := .un (fun _ _ => K1.wo_nm _) (fun x h w _ => Fp2.rRed h w)
theorem rAdd : Con Tryz.prog GlobD 71 [6, 6] (f2 fun x y => W 6 (wa K1 x y)) := .bi (fun _ _ _ _ => K1.wo_nm _) (fun x h y k w _ => Fp2.rAdd h k w)
theorem rSub : Con Tryz.prog GlobD 69 [6, 6] (f2 fun x y => W 6 (ws K1 x y)) := .bi (fun _ _ _ _ => K1.wo_nm _) (fun x h y k w _ => by rw [show ws K1 x y = Fp.fe (num x - num y) from congrArg Fp.fe (fsub _ _)]; exact Fp2.rSub h k w)
theorem rNeg : Con Tryz.prog GlobD 25 [6] (f1 fun x => W 6 (wn K1 x)) := .un (fun _ _ => K1.wo_nm _) (fun x h w _ => by rw [show wn K1 x = Fp.fe (-num x) from congrArg Fp.fe ((fsub _ _).trans (Int.zero_sub _))]; exact Fp2.rNeg h w)
theorem rMul : Con Tryz.prog GlobD 70 [6, 6] (f2 fun x y => W 6 (wm K1 x y)) := .bi (fun _ _ _ _ => K1.wo_nm _) (fun x h y k w _ => Fp2.rMul h k w)
theorem rInv : Con Tryz.prog GlobD 97 [6] (f1 fun x => W 6 (wi K1 x)) := .un (fun _ _ => K1.wo_nm _) (fun x h w _ => Fp2.rInv h w)
end Go.Proofs.YtmohopjblhgdiaaGreatDoor.G1K

/-
  Own text. Layer 13: the numbers of fp2 as words; their calls.
-/
namespace Go.Proofs.YtmohopjblhgdiaaGreatDoor.G2K
set_option linter.unusedVariables false
set_option linter.unusedSimpArgs false
open Go Go.RowKit Go.Proofs.YtmohopjblhgdiaaGreatDoor.Reg Go.Proofs.YtmohopjblhgdiaaGreatDoor.Base Go.Proofs.YtmohopjblhgdiaaGreatDoor.Limb Go.Proofs.YtmohopjblhgdiaaGreatDoor.Sx Go.Proofs.YtmohopjblhgdiaaGreatDoor.Fp Go.Proofs.YtmohopjblhgdiaaGreatDoor.Fp2 Go.Proofs.YtmohopjblhgdiaaGreatDoor.Ec Go.Proofs.YtmohopjblhgdiaaGreatDoor.Pts

instance decZ : DecidablePred FG.Z := fun a => inferInstanceAs (Decidable (a.1 % PP = 0 ∧ a.2 % PP = 0))
theorem fsub (a b : Fp2.G) : FG.sub a b = gs a b := by
  show ga a (gm (-1, 0) b) = gs a b
  apply Prod.ext <;> simp [ga, gm, gs, Int.sub_eq_add_neg]
theorem feq {a b : Fp2.G} : FG.eq a b ↔ E2 a b := by
  have h : FG.add a (FG.mul (FG.int (-1)) b) = gs a b := fsub a b
  rw [Fd.eq, h]
  show ((a.1 - b.1) % PP = 0 ∧ (a.2 - b.2) % PP = 0) ↔ (a.1 % PP = b.1 % PP ∧ a.2 % PP = b.2 % PP)
  rw [Int.emod_eq_emod_iff_emod_sub_eq_zero, Int.emod_eq_emod_iff_emod_sub_eq_zero]
def K2 : Nk Fp2.G where
  F := FG
  n := 12
  wo := F2
  va := v2
  wo_nm := fun a => .F2 a
  wo_eq := fun h => F2_eq (feq.1 h)
  eq_wo := fun h => feq.2 (F2_inj h)
  va_wo := fun a => feq.2 (v2_F2 a)
  inv_eq := fun h => feq.2 (gi_congr (feq.1 h))
  dec := decZ
theorem va_k (k : Int) : K2.va [k, 0, 0, 0, 0, 0, 0, 0, 0, 0, 0, 0] = K2.F.int k := by
  show (num [k, 0, 0, 0, 0, 0], num [0, 0, 0, 0, 0, 0]) = (k, 0)
  simp [num, low, nth, wp]
def c0 : List Int := [0, 0, 0, 0, 0, 0, 0, 0, 0, 0, 0, 0]
def c1 : List Int := [1, 0, 0, 0, 0, 0, 0, 0, 0, 0, 0, 0]
def c2 : List Int := [2, 0, 0, 0, 0, 0, 0, 0, 0, 0, 0, 0]
def c3 : List Int := [3, 0, 0, 0, 0, 0, 0, 0, 0, 0, 0, 0]
def c4 : List Int := [4, 0, 0, 0, 0, 0, 0, 0, 0, 0, 0, 0]
def c8 : List Int := [8, 0, 0, 0, 0, 0, 0, 0, 0, 0, 0, 0]
theorem h0 : K2.wo (K2.F.int 0) = c0 := by decide +kernel
theorem h2 : K2.va c2 = K2.F.int 2 := va_k 2
theorem h3 : K2.va c3 = K2.F.int 3 := va_k 3
theorem h4 : K2.va c4 = K2.F.int 4 := va_k 4
theorem h8 : K2.va c8 = K2.F.int 8 := va_k 8
/-- The curve's number. -/
def bb : Fp2.G := (4, 4)
def cb : List Int := [4, 0, 0, 0, 0, 0, 4, 0, 0, 0, 0, 0]
theorem hb : K2.va cb = bb := by decide +kernel
/-- A point, answered. -/
def PA (A : Pt Fp2.G) : AV := .agg [.nums 24 (ptW K2 A), .nm (.bl (ptB A))]
theorem pa_ok (A : Pt Fp2.G) (n : Nat) : (PA A).Ok n := ⟨nm_ptW K2 A, trivial, trivial⟩
theorem pa_den (A : Pt Fp2.G) (gs : List Nat) : (PA A).den gs = .agg (vals .u64 (ptW K2 A) ++ #[.bool (ptB A)]) := by simp [PA, AV.den, den, Sg.den, NV.den, vals]
set_option maxRecDepth 100000 in
theorem eqG : EqOB Tryz.prog 10000 28 24 := eqob_two (n := 12) (eqok_two (d := 9998) (n := 6) (eqok_arr (d := 9996) Tryz.underlying24 Tryz.underlying22 (by kernel_rfl) (by kernel_rfl)) Tryz.underlying24 rfl (by kernel_rfl) Tryz.underlying26 (by kernel_rfl) (by kernel_rfl)) Tryz.underlying26 rfl (by kernel_rfl) Tryz.underlying4 Tryz.underlying28 (by kernel_rfl) (by kernel_rfl)
set_option maxRecDepth 100000 in
theorem gdG : Tryz.prog.eqGuardType Tryz.prog.depth 28 = false := by kernel_rfl
set_option maxRecDepth 100000 in
theorem eqF : EqOK Tryz.prog 10000 26 12 := eqok2
set_option maxRecDepth 100000 in
theorem gdF : Tryz.prog.eqGuardType Tryz.prog.depth 26 = false := by kernel_rfl
/-- A function of one point, of two. -/
def o1 (f : List Int → Bool → AV) : List AA → AV
  | [.p x b] => f x b
  | _ => .unk
def o2 (f : List Int → Bool → List Int → Bool → AV) : List AA → AV
  | [.p x b, .p y c] => f x b y c
  | _ => .unk
abbrev Pre0 : List AA → List Ob := fun _ => []
section
variable {P : Program} {G : World → Prop} {F : FuncId}
theorem con1 {f : List Int → Bool → AV} (h0 : ∀ x b n, (f x b).Ok n) (h1 : ∀ x b gs, (f x b).den gs = (f x b).den []) (h : ∀ x, Nm 24 x → ∀ b w, G w → Calls P F #[.agg (vals .u64 x ++ #[.bool b])] w fun e w' => e = .returned ((f x b).den []) ∧ RowKit.Below w.heap.size w w') : ConG P G F [.p 24] Pre0 (o1 f) := by
  intro l hl _
  match l, hl with
  | [.p x b], ⟨hx, _⟩ =>
    refine ⟨h0 x b, h1 x b, fun w hG vs hv => ?_⟩
    match vs, hv with
    | [v], ⟨hv, _⟩ =>
      obtain rfl := hv
      exact h x hx b w hG
theorem con2 {f : List Int → Bool → List Int → Bool → AV} (h0 : ∀ x b y c n, (f x b y c).Ok n) (h1 : ∀ x b y c gs, (f x b y c).den gs = (f x b y c).den []) (h : ∀ x, Nm 24 x → ∀ b y, Nm 24 y → ∀ c w, G w → Calls P F #[.agg (vals .u64 x ++ #[.bool b]), .agg (vals .u64 y ++ #[.bool c])] w fun e w' => e = .returned ((f x b y c).den []) ∧ RowKit.Below w.heap.size w w') : ConG P G F [.p 24, .p 24] Pre0 (o2 f) := by
  intro l hl _
  match l, hl with
  | [.p x b, .p y c], ⟨hx, hy, _⟩ =>
    refine ⟨h0 x b y c, h1 x b y c, fun w hG vs hv => ?_⟩
    match vs, hv with
    | [v, u], ⟨hv, hu, _⟩ =>
      obtain rfl := hv
      obtain rfl := hu
      exact h x hx b y hy c w hG
end
theorem p_den {x : List Int} {b : Bool} {gs : List Nat} : (AV.agg [.nums 24 x, .nm (.bl b)]).den gs = .agg (vals .u64 x ++ #[.bool b]) := by simp [AV.den, den, Sg.den, NV.den, vals]
theorem noSS {G : World → Prop} {w : World} (h : G w) : GS G [] w := ⟨h, fun s hs => by cases hs⟩
theorem rReduce : Con Tryz.prog GlobD 24 [12] (f1 fun x => W 12 (wr K2 x)) := S7.qReduce
theorem rAdd : Con Tryz.prog GlobD 68 [12, 12] (f2 fun x y => W 12 (wa K2 x y)) := S7.qAdd
theorem rSub : Con Tryz.prog GlobD 30 [12, 12] (f2 fun x y => W 12 (ws K2 x y)) := by rw [show (f2 fun x y => W 12 (ws K2 x y)) = f2 fun x y => W 12 (F2 (gs (v2 x) (v2 y))) from congrArg f2 (funext fun x => funext fun y => congrArg (W 12) (congrArg F2 (fsub _ _)))]; exact S7.qSub
theorem rNeg : Con Tryz.prog GlobD 32 [12] (f1 fun x => W 12 (wn K2 x)) := by rw [show (f1 fun x => W 12 (wn K2 x)) = f1 fun x => W 12 (F2 (gn (v2 x))) from congrArg f1 (funext fun x => congrArg (W 12) (congrArg F2 ((fsub _ _).trans (by show ((0 : Int) - (v2 x).1, (0 : Int) - (v2 x).2) = (-(v2 x).1, -(v2 x).2); rw [Int.zero_sub, Int.zero_sub]))))]; exact S7.qNeg
theorem rMul : Con Tryz.prog GlobD 31 [12, 12] (f2 fun x y => W 12 (wm K2 x y)) := S7.qMul
theorem rInv : Con Tryz.prog GlobD 64 [12] (f1 fun x => W 12 (wi K2 x)) := S7.qInv
end Go.Proofs.YtmohopjblhgdiaaGreatDoor.G2K

/-
  Own text. A number's bits, from the highest on. Speaks of no program.
-/
namespace Go.Proofs.YtmohopjblhgdiaaGreatDoor.Ey
set_option linter.unusedVariables false
open Go Go.RowKit Go.Proofs.YtmohopjblhgdiaaGreatDoor.Reg Go.Proofs.YtmohopjblhgdiaaGreatDoor.Base Go.Proofs.YtmohopjblhgdiaaGreatDoor.Limb Go.Proofs.YtmohopjblhgdiaaGreatDoor.Fp
section
variable {n : Nat} {l : List Int}
/-- A round's place, word, from there on. -/
abbrev ji (n k : Nat) : Int := 64 * (n : Int) - 1 - k
abbrev wd_ (n : Nat) (l : List Int) (k : Nat) : Int := nth l ((ji n k / 64).toNat * 1) / 2 ^ (ji n k % 64).toNat
def ey (n : Nat) (l : List Int) (k : Nat) : Nat := (num l / tp (64 * n - k)).toNat
end
end Go.Proofs.YtmohopjblhgdiaaGreatDoor.Ey

/-
  Own text. Layer 12, the document's answer by the reckoner.
-/
namespace Go.Proofs.YtmohopjblhgdiaaGreatDoor.S12R
set_option linter.unusedVariables false
set_option linter.unusedSimpArgs false
open Go Go.RowKit Go.Proofs.YtmohopjblhgdiaaGreatDoor.Reg Go.Proofs.YtmohopjblhgdiaaGreatDoor.Base Go.Proofs.YtmohopjblhgdiaaGreatDoor.Limb Go.Proofs.YtmohopjblhgdiaaGreatDoor.Sx Go.Proofs.YtmohopjblhgdiaaGreatDoor.Fp Go.Proofs.YtmohopjblhgdiaaGreatDoor.Fp2 Go.Proofs.YtmohopjblhgdiaaGreatDoor.Ec Go.Proofs.YtmohopjblhgdiaaGreatDoor.Pts Go.Proofs.YtmohopjblhgdiaaGreatDoor.G1K Go.Proofs.YtmohopjblhgdiaaGreatDoor.Ey

def L0 : List (Fact Tryz.prog GlobD) := rReduce.fact (.con Tryz.func34 rfl (by decide) rReduce) ::
  rAdd.fact (.con Tryz.func71 rfl (by decide) rAdd) ::
  rSub.fact (.con Tryz.func69 rfl (by decide) rSub) ::
  rNeg.fact (.con Tryz.func25 rfl (by decide) rNeg) ::
  rMul.fact (.con Tryz.func70 rfl (by decide) rMul) ::
  rInv.fact (.con Tryz.func97 rfl (by decide) rInv) ::
  []
def XN : Cx := .of [] []
theorem XN_ok : CxOk Tryz.prog XN GlobD := cx_ok (E := []) [] trivial (by kernel_rfl)
def L1 : List (Fact Tryz.prog GlobD) := ⟨80, entI 80 XN 9, .inline XN_ok GlobD.keep Tryz.func80 rfl (by decide)⟩ ::
  L0
def X1 : Cx := ((Cx.of [(24, 6)] (tb L1)).eqs [(30, 12)]).more []
theorem X1_ok : CxOk Tryz.prog X1 GlobD := ((cx_ok (E := [(24, 6)]) L1 ⟨⟨G1K.eqF, G1K.gdF⟩, trivial⟩ (by kernel_rfl)).eqs (EM := [(30, 12)]) ⟨⟨eqG, gdG⟩, trivial⟩).more (T2 := []) trivial
set_option maxRecDepth 100000 in
theorem qOn : ConG Tryz.prog GlobD 41 [.p 12] Pre0 (o1 fun x b => .bl (onB K1 (K1.F.int 4) (ptv K1 x b))) := con1 (fun x b n => trivial) (fun x b gs => rfl) (fun x hx b w hG => by
  cases b
  · have ho := on_w (K := K1) (h4 := h4) (seg 0 6 x) (seg 6 6 x)
    by_cases h : wm K1 (seg 6 6 x) (seg 6 6 x) = wa K1 (wm K1 (wm K1 (seg 0 6 x) (seg 0 6 x)) (seg 0 6 x)) c4
    · exact fn_outS (N := 9) X1_ok GlobD.keep Tryz.func41 [] (fun s hs => by cases hs) (noSS hG) (args := [.agg [.nums 12 x, .nm (.bl false)]]) (q := [false, true]) (v := (.bl true)) (obs := [false = false, qb true (wm K1 (seg 6 6 x) (seg 6 6 x) = wa K1 (wm K1 (wm K1 (seg 0 6 x) (seg 0 6 x)) (seg 0 6 x)) c4)]) 1 (by kernel_rfl) (hp (rfl) (hp (h) trivial)) (fun v hv => by
      simp only [List.mem_cons, List.not_mem_nil, or_false] at hv
      obtain rfl := hv
      exact ⟨hx, trivial, trivial⟩) (by rw [ptv_f]; exact congrArg Value.bool (ho.1 h).symm) (by simp only [List.map_cons, List.map_nil, p_den])
    · exact fn_outS (N := 9) X1_ok GlobD.keep Tryz.func41 [] (fun s hs => by cases hs) (noSS hG) (args := [.agg [.nums 12 x, .nm (.bl false)]]) (q := [false, false]) (v := (.bl false)) (obs := [false = false, qb false (wm K1 (seg 6 6 x) (seg 6 6 x) = wa K1 (wm K1 (wm K1 (seg 0 6 x) (seg 0 6 x)) (seg 0 6 x)) c4)]) 1 (by kernel_rfl) (hp (rfl) (hp (h) trivial)) (fun v hv => by
      simp only [List.mem_cons, List.not_mem_nil, or_false] at hv
      obtain rfl := hv
      exact ⟨hx, trivial, trivial⟩) (by rw [ptv_f]; exact congrArg Value.bool (Bool.eq_false_iff.2 (fun e => h (ho.2 e))).symm) (by simp only [List.map_cons, List.map_nil, p_den])
  · exact fn_outS (N := 9) X1_ok GlobD.keep Tryz.func41 [] (fun s hs => by cases hs) (noSS hG) (args := [.agg [.nums 12 x, .nm (.bl true)]]) (q := [true]) (v := (.bl true)) (obs := [true = true]) 1 (by kernel_rfl) (hp (rfl) trivial) (fun v hv => by
      simp only [List.mem_cons, List.not_mem_nil, or_false] at hv
      obtain rfl := hv
      exact ⟨hx, trivial, trivial⟩) (by rw [ptv_t]; rfl) (by simp only [List.map_cons, List.map_nil, p_den]))
theorem rx (x : List Int) : seg 0 6 (ptW K1 (ptv K1 x false)) = wr K1 (seg 0 6 x) := by
  rw [ptv_f, ptW]
  exact seg_x K1 _ _
theorem ry (x : List Int) : seg 6 6 (ptW K1 (ptv K1 x false)) = wr K1 (seg 6 6 x) := by
  rw [ptv_f, ptW]
  exact seg_y K1 _ _
abbrev PreFF : List AA → List Ob
  | [.p _ b, .p _ c] => [b = false, c = false]
  | _ => []
theorem con2f {P : Program} {G : World → Prop} {F : FuncId} {f : List Int → List Int → AV} (h0 : ∀ x y n, (f x y).Ok n) (h1 : ∀ x y gs, (f x y).den gs = (f x y).den []) (h : ∀ x, Nm 12 x → ∀ y, Nm 12 y → ∀ w, G w → Calls P F #[.agg (vals .u64 x ++ #[.bool false]), .agg (vals .u64 y ++ #[.bool false])] w fun e w' => e = .returned ((f x y).den []) ∧ RowKit.Below w.heap.size w w') : ConG P G F [.p 12, .p 12] PreFF (o2 fun x _ y _ => f x y) := by
  intro l hl hp
  match l, hl, hp with
  | [.p x b, .p y c], ⟨hx, hy, _⟩, hp =>
    obtain ⟨rfl, rfl, _⟩ := hp
    refine ⟨h0 x y, h1 x y, fun w hG vs hv => ?_⟩
    match vs, hv with
    | [v, u], ⟨hv, hu, _⟩ =>
      obtain rfl := hv
      obtain rfl := hu
      exact h x hx y hy w hG
def T2 : List (FuncId × Ent2) := [(41, entG [.p 12] Pre0 (o1 fun x b => .bl (onB K1 (K1.F.int 4) (ptv K1 x b))))]
theorem T2_ok : TOk2 Tryz.prog GlobD T2 := ⟨.conG Tryz.func41 rfl (by decide) qOn, trivial⟩
def X2 : Cx := ((Cx.of [(24, 6)] (tb L1)).eqs [(30, 12)]).more T2
theorem X2_ok : CxOk Tryz.prog X2 GlobD := ((cx_ok (E := [(24, 6)]) L1 ⟨⟨G1K.eqF, G1K.gdF⟩, trivial⟩ (by kernel_rfl)).eqs (EM := [(30, 12)]) ⟨⟨eqG, gdG⟩, trivial⟩).more T2_ok
def T3_ : List (FuncId × Ent2) := [(41, entG [.p 12] Pre0 (o1 fun x b => .bl (onB K1 (K1.F.int 4) (ptv K1 x b))))]
theorem T3__ok : TOk2 Tryz.prog GlobD T3_ := ⟨.conG Tryz.func41 rfl (by decide) qOn, trivial⟩
def X3 : Cx := ((Cx.of [(24, 6)] (tb L1)).eqs [(30, 12)]).more T3_
theorem X3_ok : CxOk Tryz.prog X3 GlobD := ((cx_ok (E := [(24, 6)]) L1 ⟨⟨G1K.eqF, G1K.gdF⟩, trivial⟩ (by kernel_rfl)).eqs (EM := [(30, 12)]) ⟨⟨eqG, gdG⟩, trivial⟩).more T3__ok
abbrev PreF1 : List AA → List Ob
  | [.w l, .p q b] => [b = false]
  | _ => []
def owp (f : List Int → List Int → AV) : List AA → AV
  | [.w l, .p q _] => f l q
  | _ => .unk
def L4 : List (Fact Tryz.prog GlobD) := L1
def X4 : Cx := ((Cx.of [(24, 6)] (tb L4)).eqs [(30, 12)]).more T3_
theorem X4_ok : CxOk Tryz.prog X4 GlobD := ((cx_ok (E := [(24, 6)]) L4 ⟨⟨G1K.eqF, G1K.gdF⟩, trivial⟩ (by kernel_rfl)).eqs (EM := [(30, 12)]) ⟨⟨eqG, gdG⟩, trivial⟩).more T3__ok
def T5 : List (FuncId × Ent2) := [(41, entG [.p 12] Pre0 (o1 fun x b => .bl (onB K1 (K1.F.int 4) (ptv K1 x b))))]
theorem T5_ok : TOk2 Tryz.prog GlobD T5 := ⟨.conG Tryz.func41 rfl (by decide) qOn, trivial⟩
def X5 : Cx := ((Cx.of [(24, 6)] (tb L4)).eqs [(30, 12)]).more T5
theorem X5_ok : CxOk Tryz.prog X5 GlobD := ((cx_ok (E := [(24, 6)]) L4 ⟨⟨G1K.eqF, G1K.gdF⟩, trivial⟩ (by kernel_rfl)).eqs (EM := [(30, 12)]) ⟨⟨eqG, gdG⟩, trivial⟩).more T5_ok
theorem h1 : K1.wo (K1.F.int 1) = c1 := by decide +kernel
theorem hz : List.replicate K1.n 0 = c0 := rfl
abbrev q_ (x : List Int) : List Int := ptW K1 (ptv K1 x false)
abbrev tw_ (l : List Int) : List Int := twR K1 c2 c3 c4 c8 (seg 0 6 l) (seg 6 6 l) (seg 12 6 l)
abbrev pl_ (x l : List Int) : List Int := plF K1 c0 c1 c2 c3 c4 c8 l (q_ x)
section
variable (x o : List Int) (A : Option Addr) (n c : Nat) (l : List Int)
end
abbrev SM (A : Option Addr) (n : Nat) (l : List Int) (B : Nat) : SS := [(A, n * 1, l, B)]
def DM (A : Option Addr) (n : Nat) (l : List Int) (A' : Option Addr) (n' : Nat) (l' : List Int) : Prop := A' = A ∧ n' = n ∧ l' = l
def GM (A : Option Addr) (n : Nat) (l : List Int) (B : Nat) (u : World) : Prop := (GlobD u ∧ B ≤ u.heap.size) ∧ Rd u B A n .u64 l
theorem GM.keep {A : Option Addr} {n : Nat} {l : List Int} {B : Nat} {w u : World} (h : GM A n l B w) (hb : RowKit.Below w.heap.size w u) : GM A n l B u := ⟨⟨h.1.1.keep hb, Nat.le_trans h.1.2 hb.size⟩, h.2.keep hb h.1.2⟩
abbrev XM (A : Option Addr) (n : Nat) (l : List Int) (H : List (Nat × Ev)) : Cx := X5.sym (DM A n l) H
theorem XM_ok {A : Option Addr} {n : Nat} {l : List Int} {B : Nat} (hw : Words l) (H : List (Nat × Ev)) : CxB Tryz.prog (XM A n l H) (GM A n l B) :=
  X5_ok.toCxB.sym (fun u h => h.1.1) (fun A' n' l' h => by
    obtain ⟨rfl, rfl, rfl⟩ := h
    exact ⟨hw, B, fun u hu => ⟨hu.1.2, hu.2⟩⟩) H
section
variable {x o o' : List Int} {A : Option Addr} {n c : Nat} {l : List Int} {B S : Nat} {w : World}
theorem does (hw : Words l) (hG : ∀ u, RowKit.Below S w u → GM A n l B u) (c : Code) : Does Tryz.prog S 0 w c (evalC Tryz.prog (XM A n l []) 0 9 c) := code_ok (XM_ok hw []) hG c (fun _ _ _ h => by rw [hooked_nil] at h; cases h)
end
section
variable {x o o' : List Int} {A : Option Addr} {n c : Nat} {l : List Int} {B S : Nat} {w : World}
/-- The fraction behind so many rounds. -/
def jr (x : List Int) (n : Nat) (l : List Int) : Nat → List Int
  | 0 => List.replicate 18 0
  | k + 1 => if wd_ n l k % 2 = 1 then pl_ x (tw_ (jr x n l k)) else tw_ (jr x n l k)
end
/-- What Mul answers. -/
def mulA (m : Nat) (x : List Int) (b : Bool) : AV := .tup [.agg [.nums 12 (ptW K1 (mulO K1 (K1.F.int 4) m (ptv K1 x b))), .nm (.bl (ptB (mulO K1 (K1.F.int 4) m (ptv K1 x b))))], .num .i64 (if onB K1 (K1.F.int 4) (ptv K1 x b) = true then 0 else 120)]
def oM (f : Nat → List Int → Bool → AV) : List AA → AV
  | [.sl _ l, .p x b] => f (num l).toNat x b
  | _ => .unk
/-- The base. -/
def BL : List Int := [18103045581585958587, 7806400890582735599, 11623291730934869080, 14080658508445169925, 2780237799254240271, 1725392847304644500, 912580534683953121, 15005087156090211044, 61670280795567085, 18227722000993880822, 11573741888802228964, 627113611842199793]
theorem nm_BL : Nm 12 BL := ⟨rfl, words_of _ (by decide)⟩
def o0 (v : AV) : List AA → AV
  | [] => v
  | _ => .unk
def BP : AV := .agg [.nums 12 BL, .nm (.bl false)]
theorem con0 {P : Program} {G : World → Prop} {F : FuncId} {v : AV} (h0 : ∀ n, v.Ok n) (h1 : ∀ gs, v.den gs = v.den []) (h : ∀ w, G w → Calls P F #[] w fun e w' => e = .returned (v.den []) ∧ RowKit.Below w.heap.size w w') : ConG P G F [] Pre0 (o0 v) := by
  intro l hl _
  match l, hl with
  | [], _ =>
    refine ⟨h0, h1, fun w hG vs hv => ?_⟩
    match vs, hv with
    | [], _ => exact h w hG
end Go.Proofs.YtmohopjblhgdiaaGreatDoor.S12R

/-
  Own text. Layer 13, the document's answer by the reckoner.
-/
namespace Go.Proofs.YtmohopjblhgdiaaGreatDoor.S13R
set_option linter.unusedVariables false
set_option linter.unusedSimpArgs false
open Go Go.RowKit Go.Proofs.YtmohopjblhgdiaaGreatDoor.Reg Go.Proofs.YtmohopjblhgdiaaGreatDoor.Base Go.Proofs.YtmohopjblhgdiaaGreatDoor.Limb Go.Proofs.YtmohopjblhgdiaaGreatDoor.Sx Go.Proofs.YtmohopjblhgdiaaGreatDoor.Fp Go.Proofs.YtmohopjblhgdiaaGreatDoor.Fp2 Go.Proofs.YtmohopjblhgdiaaGreatDoor.Ec Go.Proofs.YtmohopjblhgdiaaGreatDoor.Pts Go.Proofs.YtmohopjblhgdiaaGreatDoor.G2K Go.Proofs.YtmohopjblhgdiaaGreatDoor.Ey

def L0 : List (Fact Tryz.prog GlobD) := rReduce.fact (.con Tryz.func24 rfl (by decide) rReduce) ::
  rAdd.fact (.con Tryz.func68 rfl (by decide) rAdd) ::
  rSub.fact (.con Tryz.func30 rfl (by decide) rSub) ::
  rNeg.fact (.con Tryz.func32 rfl (by decide) rNeg) ::
  rMul.fact (.con Tryz.func31 rfl (by decide) rMul) ::
  rInv.fact (.con Tryz.func64 rfl (by decide) rInv) ::
  []
def XN : Cx := .of [] []
theorem XN_ok : CxOk Tryz.prog XN GlobD := cx_ok (E := []) [] trivial (by kernel_rfl)
def L1 : List (Fact Tryz.prog GlobD) := ⟨63, entI 63 XN 9, .inline XN_ok GlobD.keep Tryz.func63 rfl (by decide)⟩ ::
  ⟨81, entI 81 XN 9, .inline XN_ok GlobD.keep Tryz.func81 rfl (by decide)⟩ ::
  L0
def X1 : Cx := ((Cx.of [(26, 12)] (tb L1)).eqs [(28, 24)]).more []
theorem X1_ok : CxOk Tryz.prog X1 GlobD := ((cx_ok (E := [(26, 12)]) L1 ⟨⟨G2K.eqF, G2K.gdF⟩, trivial⟩ (by kernel_rfl)).eqs (EM := [(28, 24)]) ⟨⟨eqG, gdG⟩, trivial⟩).more (T2 := []) trivial
set_option maxRecDepth 100000 in
theorem qReduce : ConG Tryz.prog GlobD 43 [.p 24] Pre0 (o1 fun x b => PA (ptv K2 x b)) := con1 (fun x b n => pa_ok _ _) (fun x b gs => by rw [pa_den, pa_den]) (fun x hx b w hG => by
  cases b
  · exact fn_outS (N := 9) X1_ok GlobD.keep Tryz.func43 [] (fun s hs => by cases hs) (noSS hG) (args := [.agg [.nums 24 x, .nm (.bl false)]]) (q := [false]) (v := (.agg [.nums 24 (wr K2 (seg 0 12 x) ++ wr K2 (seg 12 12 x)), .nm (.bl false)])) (obs := [false = false]) 1 (by kernel_rfl) (hp (rfl) trivial) (fun v hv => by
      simp only [List.mem_cons, List.not_mem_nil, or_false] at hv
      obtain rfl := hv
      exact ⟨hx, trivial, trivial⟩) (by rw [ptv_f]; rfl) (by simp only [List.map_cons, List.map_nil, p_den])
  · exact fn_outS (N := 9) X1_ok GlobD.keep Tryz.func43 [] (fun s hs => by cases hs) (noSS hG) (args := [.agg [.nums 24 x, .nm (.bl true)]]) (q := [true]) (v := (PA none)) (obs := [true = true]) 1 (by kernel_rfl) (hp (rfl) trivial) (fun v hv => by
      simp only [List.mem_cons, List.not_mem_nil, or_false] at hv
      obtain rfl := hv
      exact ⟨hx, trivial, trivial⟩) (by rw [ptv_t]) (by simp only [List.map_cons, List.map_nil, p_den]))
set_option maxRecDepth 100000 in
theorem qOn : ConG Tryz.prog GlobD 42 [.p 24] Pre0 (o1 fun x b => .bl (onB K2 bb (ptv K2 x b))) := con1 (fun x b n => trivial) (fun x b gs => rfl) (fun x hx b w hG => by
  cases b
  · have ho := on_wc (K := K2) (hb := hb) (seg 0 12 x) (seg 12 12 x)
    by_cases h : wm K2 (seg 12 12 x) (seg 12 12 x) = wa K2 (wm K2 (wm K2 (seg 0 12 x) (seg 0 12 x)) (seg 0 12 x)) cb
    · exact fn_outS (N := 9) X1_ok GlobD.keep Tryz.func42 [] (fun s hs => by cases hs) (noSS hG) (args := [.agg [.nums 24 x, .nm (.bl false)]]) (q := [false, true]) (v := (.bl true)) (obs := [false = false, qb true (wm K2 (seg 12 12 x) (seg 12 12 x) = wa K2 (wm K2 (wm K2 (seg 0 12 x) (seg 0 12 x)) (seg 0 12 x)) cb)]) 1 (by kernel_rfl) (hp (rfl) (hp (h) trivial)) (fun v hv => by
      simp only [List.mem_cons, List.not_mem_nil, or_false] at hv
      obtain rfl := hv
      exact ⟨hx, trivial, trivial⟩) (by rw [ptv_f]; exact congrArg Value.bool (ho.1 h).symm) (by simp only [List.map_cons, List.map_nil, p_den])
    · exact fn_outS (N := 9) X1_ok GlobD.keep Tryz.func42 [] (fun s hs => by cases hs) (noSS hG) (args := [.agg [.nums 24 x, .nm (.bl false)]]) (q := [false, false]) (v := (.bl false)) (obs := [false = false, qb false (wm K2 (seg 12 12 x) (seg 12 12 x) = wa K2 (wm K2 (wm K2 (seg 0 12 x) (seg 0 12 x)) (seg 0 12 x)) cb)]) 1 (by kernel_rfl) (hp (rfl) (hp (h) trivial)) (fun v hv => by
      simp only [List.mem_cons, List.not_mem_nil, or_false] at hv
      obtain rfl := hv
      exact ⟨hx, trivial, trivial⟩) (by rw [ptv_f]; exact congrArg Value.bool (Bool.eq_false_iff.2 (fun e => h (ho.2 e))).symm) (by simp only [List.map_cons, List.map_nil, p_den])
  · exact fn_outS (N := 9) X1_ok GlobD.keep Tryz.func42 [] (fun s hs => by cases hs) (noSS hG) (args := [.agg [.nums 24 x, .nm (.bl true)]]) (q := [true]) (v := (.bl true)) (obs := [true = true]) 1 (by kernel_rfl) (hp (rfl) trivial) (fun v hv => by
      simp only [List.mem_cons, List.not_mem_nil, or_false] at hv
      obtain rfl := hv
      exact ⟨hx, trivial, trivial⟩) (by rw [ptv_t]; rfl) (by simp only [List.map_cons, List.map_nil, p_den]))
theorem rx (x : List Int) : seg 0 12 (ptW K2 (ptv K2 x false)) = wr K2 (seg 0 12 x) := by
  rw [ptv_f, ptW]
  exact seg_x K2 _ _
theorem ry (x : List Int) : seg 12 12 (ptW K2 (ptv K2 x false)) = wr K2 (seg 12 12 x) := by
  rw [ptv_f, ptW]
  exact seg_y K2 _ _
abbrev PreFF : List AA → List Ob
  | [.p _ b, .p _ c] => [b = false, c = false]
  | _ => []
theorem con2f {P : Program} {G : World → Prop} {F : FuncId} {f : List Int → List Int → AV} (h0 : ∀ x y n, (f x y).Ok n) (h1 : ∀ x y gs, (f x y).den gs = (f x y).den []) (h : ∀ x, Nm 24 x → ∀ y, Nm 24 y → ∀ w, G w → Calls P F #[.agg (vals .u64 x ++ #[.bool false]), .agg (vals .u64 y ++ #[.bool false])] w fun e w' => e = .returned ((f x y).den []) ∧ RowKit.Below w.heap.size w w') : ConG P G F [.p 24, .p 24] PreFF (o2 fun x _ y _ => f x y) := by
  intro l hl hp
  match l, hl, hp with
  | [.p x b, .p y c], ⟨hx, hy, _⟩, hp =>
    obtain ⟨rfl, rfl, _⟩ := hp
    refine ⟨h0 x y, h1 x y, fun w hG vs hv => ?_⟩
    match vs, hv with
    | [v, u], ⟨hv, hu, _⟩ =>
      obtain rfl := hv
      obtain rfl := hu
      exact h x hx y hy w hG
def T2 : List (FuncId × Ent2) := [(43, entG [.p 24] Pre0 (o1 fun x b => PA (ptv K2 x b))), (42, entG [.p 24] Pre0 (o1 fun x b => .bl (onB K2 bb (ptv K2 x b))))]
theorem T2_ok : TOk2 Tryz.prog GlobD T2 := ⟨.conG Tryz.func43 rfl (by decide) qReduce, .conG Tryz.func42 rfl (by decide) qOn, trivial⟩
def X2 : Cx := ((Cx.of [(26, 12)] (tb L1)).eqs [(28, 24)]).more T2
theorem X2_ok : CxOk Tryz.prog X2 GlobD := ((cx_ok (E := [(26, 12)]) L1 ⟨⟨G2K.eqF, G2K.gdF⟩, trivial⟩ (by kernel_rfl)).eqs (EM := [(28, 24)]) ⟨⟨eqG, gdG⟩, trivial⟩).more T2_ok
set_option maxRecDepth 100000 in
theorem qSlope : ConG Tryz.prog GlobD 23 [.p 24, .p 24] PreFF (o2 fun x _ y _ => .tup [.agg [.nums 12 (slF K2 c0 c2 c3 x y).1], .bl (slF K2 c0 c2 c3 x y).2]) := con2f (fun x y n => ⟨⟨nm_slF K2 _ _ _ _ _, trivial⟩, trivial, trivial⟩) (fun x y gs => rfl) (fun x hx y hy w hG => by
  by_cases e1 : wr K2 (seg 0 12 x) = wr K2 (seg 0 12 y)
  · by_cases e2 : wr K2 (seg 12 12 x) = wr K2 (seg 12 12 y)
    · by_cases e3 : wr K2 (seg 12 12 x) = c0
      · exact fn_outS (N := 9) X2_ok GlobD.keep Tryz.func23 [] (fun s hs => by cases hs) (noSS hG) (args := [.agg [.nums 24 x, .nm (.bl false)], .agg [.nums 24 y, .nm (.bl false)]]) (q := [true, true, true]) (v := (.tup [.agg [.nums 12 (List.replicate 12 0)], .bl false])) (obs := [qb true ((seg 0 12 (ptW K2 (ptv K2 x false))) = (seg 0 12 (ptW K2 (ptv K2 y false)))), qb true ((seg 12 12 (ptW K2 (ptv K2 x false))) = (seg 12 12 (ptW K2 (ptv K2 y false)))), qb true ((seg 12 12 (ptW K2 (ptv K2 x false))) = [0, 0, 0, 0, 0, 0, 0, 0, 0, 0, 0, 0])]) 1 (by kernel_rfl) (hp ((by rw [rx, rx]; exact e1)) (hp ((by rw [ry, ry]; exact e2)) (hp ((by rw [ry]; exact e3)) trivial))) (fun v hv => by
      simp only [List.mem_cons, List.not_mem_nil, or_false] at hv
      rcases hv with rfl | rfl
      · exact ⟨hx, trivial, trivial⟩
      · exact ⟨hy, trivial, trivial⟩) (by rw [show slF K2 c0 c2 c3 x y = (List.replicate 12 0, false) from (if_pos e1).trans (if_neg fun h => h.2 e3)]) (by simp only [List.map_cons, List.map_nil, p_den])
      · exact fn_outS (N := 9) X2_ok GlobD.keep Tryz.func23 [] (fun s hs => by cases hs) (noSS hG) (args := [.agg [.nums 24 x, .nm (.bl false)], .agg [.nums 24 y, .nm (.bl false)]]) (q := [true, true, false]) (v := (.tup [.agg [.nums 12 (slTw K2 c2 c3 (seg 0 12 (ptW K2 (ptv K2 x false))) (seg 12 12 (ptW K2 (ptv K2 x false))))], .bl true])) (obs := [qb true ((seg 0 12 (ptW K2 (ptv K2 x false))) = (seg 0 12 (ptW K2 (ptv K2 y false)))), qb true ((seg 12 12 (ptW K2 (ptv K2 x false))) = (seg 12 12 (ptW K2 (ptv K2 y false)))), qb false ((seg 12 12 (ptW K2 (ptv K2 x false))) = [0, 0, 0, 0, 0, 0, 0, 0, 0, 0, 0, 0])]) 1 (by kernel_rfl) (hp ((by rw [rx, rx]; exact e1)) (hp ((by rw [ry, ry]; exact e2)) (hp ((by rw [ry]; exact e3)) trivial))) (fun v hv => by
      simp only [List.mem_cons, List.not_mem_nil, or_false] at hv
      rcases hv with rfl | rfl
      · exact ⟨hx, trivial, trivial⟩
      · exact ⟨hy, trivial, trivial⟩) (by rw [rx, ry, show slF K2 c0 c2 c3 x y = (slTw K2 c2 c3 (wr K2 (seg 0 12 x)) (wr K2 (seg 12 12 x)), true) from (if_pos e1).trans (if_pos ⟨e2, e3⟩)]) (by simp only [List.map_cons, List.map_nil, p_den])
    · exact fn_outS (N := 9) X2_ok GlobD.keep Tryz.func23 [] (fun s hs => by cases hs) (noSS hG) (args := [.agg [.nums 24 x, .nm (.bl false)], .agg [.nums 24 y, .nm (.bl false)]]) (q := [true, false]) (v := (.tup [.agg [.nums 12 (List.replicate 12 0)], .bl false])) (obs := [qb true ((seg 0 12 (ptW K2 (ptv K2 x false))) = (seg 0 12 (ptW K2 (ptv K2 y false)))), qb false ((seg 12 12 (ptW K2 (ptv K2 x false))) = (seg 12 12 (ptW K2 (ptv K2 y false))))]) 1 (by kernel_rfl) (hp ((by rw [rx, rx]; exact e1)) (hp ((by rw [ry, ry]; exact e2)) trivial)) (fun v hv => by
      simp only [List.mem_cons, List.not_mem_nil, or_false] at hv
      rcases hv with rfl | rfl
      · exact ⟨hx, trivial, trivial⟩
      · exact ⟨hy, trivial, trivial⟩) (by rw [show slF K2 c0 c2 c3 x y = (List.replicate 12 0, false) from (if_pos e1).trans (if_neg fun h => e2 h.1)]) (by simp only [List.map_cons, List.map_nil, p_den])
  · exact fn_outS (N := 9) X2_ok GlobD.keep Tryz.func23 [] (fun s hs => by cases hs) (noSS hG) (args := [.agg [.nums 24 x, .nm (.bl false)], .agg [.nums 24 y, .nm (.bl false)]]) (q := [false]) (v := (.tup [.agg [.nums 12 (slCw K2 (seg 0 12 (ptW K2 (ptv K2 x false))) (seg 12 12 (ptW K2 (ptv K2 x false))) (seg 0 12 (ptW K2 (ptv K2 y false))) (seg 12 12 (ptW K2 (ptv K2 y false))))], .bl true])) (obs := [qb false ((seg 0 12 (ptW K2 (ptv K2 x false))) = (seg 0 12 (ptW K2 (ptv K2 y false))))]) 1 (by kernel_rfl) (hp ((by rw [rx, rx]; exact e1)) trivial) (fun v hv => by
      simp only [List.mem_cons, List.not_mem_nil, or_false] at hv
      rcases hv with rfl | rfl
      · exact ⟨hx, trivial, trivial⟩
      · exact ⟨hy, trivial, trivial⟩) (by rw [rx, rx, ry, ry, show slF K2 c0 c2 c3 x y = (slCw K2 (wr K2 (seg 0 12 x)) (wr K2 (seg 12 12 x)) (wr K2 (seg 0 12 y)) (wr K2 (seg 12 12 y)), true) from if_neg e1]) (by simp only [List.map_cons, List.map_nil, p_den]))
def T3_ : List (FuncId × Ent2) := [(23, entG [.p 24, .p 24] PreFF (o2 fun x _ y _ => .tup [.agg [.nums 12 (slF K2 c0 c2 c3 x y).1], .bl (slF K2 c0 c2 c3 x y).2])), (43, entG [.p 24] Pre0 (o1 fun x b => PA (ptv K2 x b))), (42, entG [.p 24] Pre0 (o1 fun x b => .bl (onB K2 bb (ptv K2 x b))))]
theorem T3__ok : TOk2 Tryz.prog GlobD T3_ := ⟨.conG Tryz.func23 rfl (by decide) qSlope, .conG Tryz.func43 rfl (by decide) qReduce, .conG Tryz.func42 rfl (by decide) qOn, trivial⟩
def X3 : Cx := ((Cx.of [(26, 12)] (tb L1)).eqs [(28, 24)]).more T3_
theorem X3_ok : CxOk Tryz.prog X3 GlobD := ((cx_ok (E := [(26, 12)]) L1 ⟨⟨G2K.eqF, G2K.gdF⟩, trivial⟩ (by kernel_rfl)).eqs (EM := [(28, 24)]) ⟨⟨eqG, gdG⟩, trivial⟩).more T3__ok
set_option maxRecDepth 100000 in
theorem qAdd : ConG Tryz.prog GlobD 22 [.p 24, .p 24] Pre0 (o2 fun x b y c => PA (addP K2.F (ptv K2 x b) (ptv K2 y c))) := con2 (fun x b y c n => pa_ok _ _) (fun x b y c gs => by rw [pa_den, pa_den]) (fun x hx b y hy c w hG => by
  cases b
  · cases c
    · cases e : (slF K2 c0 c2 c3 x y).2
      · exact fn_outS (N := 9) X3_ok GlobD.keep Tryz.func22 [] (fun s hs => by cases hs) (noSS hG) (args := [.agg [.nums 24 x, .nm (.bl false)], .agg [.nums 24 y, .nm (.bl false)]]) (q := [false, false, false]) (v := (PA none)) (obs := [false = false, false = false, false = false, false = false, (slF K2 c0 c2 c3 x y).2 = false]) 1 (by kernel_rfl) (hp (rfl) (hp (rfl) (hp (rfl) (hp (rfl) (hp (e) trivial))))) (fun v hv => by
      simp only [List.mem_cons, List.not_mem_nil, or_false] at hv
      rcases hv with rfl | rfl
      · exact ⟨hx, trivial, trivial⟩
      · exact ⟨hy, trivial, trivial⟩) (by rw [add_no K2 h0 e]) (by simp only [List.map_cons, List.map_nil, p_den])
      · obtain ⟨k1, k2⟩ := add_yes K2 h2 h3 h0 e
        exact fn_outS (N := 9) X3_ok GlobD.keep Tryz.func22 [] (fun s hs => by cases hs) (noSS hG) (args := [.agg [.nums 24 x, .nm (.bl false)], .agg [.nums 24 y, .nm (.bl false)]]) (q := [false, false, true]) (v := (.agg [.nums 24 (xsw K2 (slF K2 c0 c2 c3 x y).1 (seg 0 12 x) (seg 0 12 y) ++ ysw K2 (slF K2 c0 c2 c3 x y).1 (seg 0 12 x) (seg 12 12 x) (xsw K2 (slF K2 c0 c2 c3 x y).1 (seg 0 12 x) (seg 0 12 y))), .nm (.bl false)])) (obs := [false = false, false = false, false = false, false = false, (slF K2 c0 c2 c3 x y).2 = true]) 1 (by kernel_rfl) (hp (rfl) (hp (rfl) (hp (rfl) (hp (rfl) (hp (e) trivial))))) (fun v hv => by
      simp only [List.mem_cons, List.not_mem_nil, or_false] at hv
      rcases hv with rfl | rfl
      · exact ⟨hx, trivial, trivial⟩
      · exact ⟨hy, trivial, trivial⟩) (by rw [pa_den, ← k1, k2]; exact p_den) (by simp only [List.map_cons, List.map_nil, p_den])
    · exact fn_outS (N := 9) X3_ok GlobD.keep Tryz.func22 [] (fun s hs => by cases hs) (noSS hG) (args := [.agg [.nums 24 x, .nm (.bl false)], .agg [.nums 24 y, .nm (.bl true)]]) (q := [false, true]) (v := (PA (ptv K2 x false))) (obs := [false = false, true = true]) 1 (by kernel_rfl) (hp (rfl) (hp (rfl) trivial)) (fun v hv => by
      simp only [List.mem_cons, List.not_mem_nil, or_false] at hv
      rcases hv with rfl | rfl
      · exact ⟨hx, trivial, trivial⟩
      · exact ⟨hy, trivial, trivial⟩) (by rw [ptv_t, ptv_f]; rfl) (by simp only [List.map_cons, List.map_nil, p_den])
  · exact fn_outS (N := 9) X3_ok GlobD.keep Tryz.func22 [] (fun s hs => by cases hs) (noSS hG) (args := [.agg [.nums 24 x, .nm (.bl true)], .agg [.nums 24 y, .nm (.bl c)]]) (q := [true]) (v := (PA (ptv K2 y c))) (obs := [true = true]) 1 (by kernel_rfl) (hp (rfl) trivial) (fun v hv => by
      simp only [List.mem_cons, List.not_mem_nil, or_false] at hv
      rcases hv with rfl | rfl
      · exact ⟨hx, trivial, trivial⟩
      · exact ⟨hy, trivial, trivial⟩) (by rw [ptv_t]; rfl) (by simp only [List.map_cons, List.map_nil, p_den]))
abbrev PreF1 : List AA → List Ob
  | [.w l, .p q b] => [b = false]
  | _ => []
def owp (f : List Int → List Int → AV) : List AA → AV
  | [.w l, .p q _] => f l q
  | _ => .unk
def L4 : List (Fact Tryz.prog GlobD) := L1
def X4 : Cx := ((Cx.of [(26, 12)] (tb L4)).eqs [(28, 24)]).more T3_
theorem X4_ok : CxOk Tryz.prog X4 GlobD := ((cx_ok (E := [(26, 12)]) L4 ⟨⟨G2K.eqF, G2K.gdF⟩, trivial⟩ (by kernel_rfl)).eqs (EM := [(28, 24)]) ⟨⟨eqG, gdG⟩, trivial⟩).more T3__ok
def T5 : List (FuncId × Ent2) := [(43, entG [.p 24] Pre0 (o1 fun x b => PA (ptv K2 x b))), (42, entG [.p 24] Pre0 (o1 fun x b => .bl (onB K2 bb (ptv K2 x b))))]
theorem T5_ok : TOk2 Tryz.prog GlobD T5 := ⟨.conG Tryz.func43 rfl (by decide) qReduce, .conG Tryz.func42 rfl (by decide) qOn, trivial⟩
def X5 : Cx := ((Cx.of [(26, 12)] (tb L4)).eqs [(28, 24)]).more T5
theorem X5_ok : CxOk Tryz.prog X5 GlobD := ((cx_ok (E := [(26, 12)]) L4 ⟨⟨G2K.eqF, G2K.gdF⟩, trivial⟩ (by kernel_rfl)).eqs (EM := [(28, 24)]) ⟨⟨eqG, gdG⟩, trivial⟩).more T5_ok
theorem h1 : K2.wo (K2.F.int 1) = c1 := by decide +kernel
theorem hz : List.replicate K2.n 0 = c0 := rfl
abbrev q_ (x : List Int) : List Int := ptW K2 (ptv K2 x false)
abbrev tw_ (l : List Int) : List Int := twR K2 c2 c3 c4 c8 (seg 0 12 l) (seg 12 12 l) (seg 24 12 l)
abbrev pl_ (x l : List Int) : List Int := plF K2 c0 c1 c2 c3 c4 c8 l (q_ x)
section
variable (x o : List Int) (A : Option Addr) (n c : Nat) (l : List Int)
end
abbrev SM (A : Option Addr) (n : Nat) (l : List Int) (B : Nat) : SS := [(A, n * 1, l, B)]
def DM (A : Option Addr) (n : Nat) (l : List Int) (A' : Option Addr) (n' : Nat) (l' : List Int) : Prop := A' = A ∧ n' = n ∧ l' = l
def GM (A : Option Addr) (n : Nat) (l : List Int) (B : Nat) (u : World) : Prop := (GlobD u ∧ B ≤ u.heap.size) ∧ Rd u B A n .u64 l
theorem GM.keep {A : Option Addr} {n : Nat} {l : List Int} {B : Nat} {w u : World} (h : GM A n l B w) (hb : RowKit.Below w.heap.size w u) : GM A n l B u := ⟨⟨h.1.1.keep hb, Nat.le_trans h.1.2 hb.size⟩, h.2.keep hb h.1.2⟩
abbrev XM (A : Option Addr) (n : Nat) (l : List Int) (H : List (Nat × Ev)) : Cx := X5.sym (DM A n l) H
theorem XM_ok {A : Option Addr} {n : Nat} {l : List Int} {B : Nat} (hw : Words l) (H : List (Nat × Ev)) : CxB Tryz.prog (XM A n l H) (GM A n l B) :=
  X5_ok.toCxB.sym (fun u h => h.1.1) (fun A' n' l' h => by
    obtain ⟨rfl, rfl, rfl⟩ := h
    exact ⟨hw, B, fun u hu => ⟨hu.1.2, hu.2⟩⟩) H
section
variable {x o o' : List Int} {A : Option Addr} {n c : Nat} {l : List Int} {B S : Nat} {w : World}
theorem does (hw : Words l) (hG : ∀ u, RowKit.Below S w u → GM A n l B u) (c : Code) : Does Tryz.prog S 0 w c (evalC Tryz.prog (XM A n l []) 0 9 c) := code_ok (XM_ok hw []) hG c (fun _ _ _ h => by rw [hooked_nil] at h; cases h)
end
section
variable {x o o' : List Int} {A : Option Addr} {n c : Nat} {l : List Int} {B S : Nat} {w : World}
/-- The fraction behind so many rounds. -/
def jr (x : List Int) (n : Nat) (l : List Int) : Nat → List Int
  | 0 => List.replicate 36 0
  | k + 1 => if wd_ n l k % 2 = 1 then pl_ x (tw_ (jr x n l k)) else tw_ (jr x n l k)
end
/-- What Mul answers. -/
def mulA (m : Nat) (x : List Int) (b : Bool) : AV := .tup [.agg [.nums 24 (ptW K2 (mulO K2 bb m (ptv K2 x b))), .nm (.bl (ptB (mulO K2 bb m (ptv K2 x b))))], .num .i64 (if onB K2 bb (ptv K2 x b) = true then 0 else 120)]
def oM (f : Nat → List Int → Bool → AV) : List AA → AV
  | [.sl _ l, .p x b] => f (num l).toNat x b
  | _ => .unk
/-- The base. -/
def BL : List Int := [15312334153293348280, 841050694974028783, 12993178926126977399, 14331714969349929730, 2740446039084699729, 165123225776229009, 16549740192668593022, 3696594454104530263, 13103893525273989193, 6443473286224459290, 9055845637167730533, 1432192374203850592, 16254428414758889473, 10536956157198377609, 7873024875724591404, 12537348094477325223, 10144865889576432922, 929383263523139089, 12297368366147926462, 4555124010822409633, 2771000935339432363, 14645187562128761775, 3651525051980876697, 434250606344352972]
theorem nm_BL : Nm 24 BL := ⟨rfl, words_of _ (by decide)⟩
def o0 (v : AV) : List AA → AV
  | [] => v
  | _ => .unk
def BP : AV := .agg [.nums 24 BL, .nm (.bl false)]
theorem con0 {P : Program} {G : World → Prop} {F : FuncId} {v : AV} (h0 : ∀ n, v.Ok n) (h1 : ∀ gs, v.den gs = v.den []) (h : ∀ w, G w → Calls P F #[] w fun e w' => e = .returned (v.den []) ∧ RowKit.Below w.heap.size w w') : ConG P G F [] Pre0 (o0 v) := by
  intro l hl _
  match l, hl with
  | [], _ =>
    refine ⟨h0, h1, fun w hG vs hv => ?_⟩
    match vs, hv with
    | [], _ => exact h w hG
end Go.Proofs.YtmohopjblhgdiaaGreatDoor.S13R

/-
  Own text. Layer 12 by the reckoner: the landed package.
-/
namespace Go.Proofs.YtmohopjblhgdiaaGreatDoor.S12O
set_option linter.unusedVariables false
set_option linter.unusedSimpArgs false
open Go Go.RowKit Go.Proofs.YtmohopjblhgdiaaGreatDoor.Reg Go.Proofs.YtmohopjblhgdiaaGreatDoor.Base Go.Proofs.YtmohopjblhgdiaaGreatDoor.Limb Go.Proofs.YtmohopjblhgdiaaGreatDoor.Sx Go.Proofs.YtmohopjblhgdiaaGreatDoor.Fp Go.Proofs.YtmohopjblhgdiaaGreatDoor.Fp2 Go.Proofs.YtmohopjblhgdiaaGreatDoor.Ec Go.Proofs.YtmohopjblhgdiaaGreatDoor.Pts Go.Proofs.YtmohopjblhgdiaaGreatDoor.G1K Go.Proofs.YtmohopjblhgdiaaGreatDoor.S12R Go.Proofs.YtmohopjblhgdiaaGreatDoor.Ey

theorem pReduce : Con Tryz.prog GlobD 29 [6] (f1 fun x => W 6 (wr K1 x)) := .un (fun _ _ => K1.wo_nm _) (fun x h w g => Fp2.pRed h w g.toGlob)
theorem pAdd : Con Tryz.prog GlobD 60 [6, 6] (f2 fun x y => W 6 (wa K1 x y)) := .bi (fun _ _ _ _ => K1.wo_nm _) (fun x h y k w g => Fp2.pAdd h k w g.toGlob)
theorem pSub : Con Tryz.prog GlobD 59 [6, 6] (f2 fun x y => W 6 (ws K1 x y)) := .bi (fun _ _ _ _ => K1.wo_nm _) (fun x h y k w g => by rw [show ws K1 x y = Fp.fe (num x - num y) from congrArg Fp.fe (fsub _ _)]; exact Fp2.pSub h k w g.toGlob)
theorem pNeg : Con Tryz.prog GlobD 52 [6] (f1 fun x => W 6 (wn K1 x)) := .un (fun _ _ => K1.wo_nm _) (fun x h w g => by rw [show wn K1 x = Fp.fe (-num x) from congrArg Fp.fe ((fsub _ _).trans (Int.zero_sub _))]; exact Fp2.pNeg h w g.toGlob)
theorem pMul : Con Tryz.prog GlobD 55 [6, 6] (f2 fun x y => W 6 (wm K1 x y)) := .bi (fun _ _ _ _ => K1.wo_nm _) (fun x h y k w g => Fp2.pMul h k w g.toGlob)
theorem pInv : Con Tryz.prog GlobD 62 [6] (f1 fun x => W 6 (wi K1 x)) := .un (fun _ _ => K1.wo_nm _) (fun x h w g => Fp2.pInv h w g)
def L0 : List (Fact Tryz.prog GlobD) := pReduce.fact (.con Tryz.func29 rfl (by decide) pReduce) ::
  pAdd.fact (.con Tryz.func60 rfl (by decide) pAdd) ::
  pSub.fact (.con Tryz.func59 rfl (by decide) pSub) ::
  pNeg.fact (.con Tryz.func52 rfl (by decide) pNeg) ::
  pMul.fact (.con Tryz.func55 rfl (by decide) pMul) ::
  pInv.fact (.con Tryz.func62 rfl (by decide) pInv) ::
  []
def X0 : Cx := .of [] (tb L0)
theorem X0_ok : CxOk Tryz.prog X0 GlobD := cx_ok L0 trivial (by kernel_rfl)
def L1 : List (Fact Tryz.prog GlobD) := L0
def X1 : Cx := .of [] (tb L1)
theorem X1_ok : CxOk Tryz.prog X1 GlobD := cx_ok L1 trivial (by kernel_rfl)
def L2 : List (Fact Tryz.prog GlobD) := L1
def X2 : Cx := .of [] (tb L2)
theorem X2_ok : CxOk Tryz.prog X2 GlobD := cx_ok L2 trivial (by kernel_rfl)
def L3 : List (Fact Tryz.prog GlobD) := L2
def XA : Cx := ((Cx.of [(24, 6)] (tb L3)).eqs [(30, 12)]).more []
theorem XA_ok : CxOk Tryz.prog XA GlobD := ((cx_ok (E := [(24, 6)]) L3 ⟨⟨G1K.eqF, G1K.gdF⟩, trivial⟩ (by kernel_rfl)).eqs (EM := [(30, 12)]) ⟨⟨eqG, gdG⟩, trivial⟩).more (T2 := []) trivial
set_option maxRecDepth 100000 in
theorem lOn : ConG Tryz.prog GlobD 35 [.p 12] Pre0 (o1 fun x b => .bl (onB K1 (K1.F.int 4) (ptv K1 x b))) := con1 (fun x b n => trivial) (fun x b gs => rfl) (fun x hx b w hG => by
  cases b
  · have ho := on_w (K := K1) (h4 := h4) (seg 0 6 x) (seg 6 6 x)
    by_cases h : wm K1 (seg 6 6 x) (seg 6 6 x) = wa K1 (wm K1 (wm K1 (seg 0 6 x) (seg 0 6 x)) (seg 0 6 x)) c4
    · exact fn_outS (N := 9) XA_ok GlobD.keep Tryz.func35 [] (fun s hs => by cases hs) (noSS hG) (args := [.agg [.nums 12 x, .nm (.bl false)]]) (q := [false, true]) (v := (.bl true)) (obs := [false = false, qb true (wm K1 (seg 6 6 x) (seg 6 6 x) = wa K1 (wm K1 (wm K1 (seg 0 6 x) (seg 0 6 x)) (seg 0 6 x)) c4)]) 1 (by kernel_rfl) (hp (rfl) (hp (h) trivial)) (fun v hv => by
      simp only [List.mem_cons, List.not_mem_nil, or_false] at hv
      obtain rfl := hv
      exact ⟨hx, trivial, trivial⟩) (by rw [ptv_f]; exact congrArg Value.bool (ho.1 h).symm) (by simp only [List.map_cons, List.map_nil, p_den])
    · exact fn_outS (N := 9) XA_ok GlobD.keep Tryz.func35 [] (fun s hs => by cases hs) (noSS hG) (args := [.agg [.nums 12 x, .nm (.bl false)]]) (q := [false, false]) (v := (.bl false)) (obs := [false = false, qb false (wm K1 (seg 6 6 x) (seg 6 6 x) = wa K1 (wm K1 (wm K1 (seg 0 6 x) (seg 0 6 x)) (seg 0 6 x)) c4)]) 1 (by kernel_rfl) (hp (rfl) (hp (h) trivial)) (fun v hv => by
      simp only [List.mem_cons, List.not_mem_nil, or_false] at hv
      obtain rfl := hv
      exact ⟨hx, trivial, trivial⟩) (by rw [ptv_f]; exact congrArg Value.bool (Bool.eq_false_iff.2 (fun e => h (ho.2 e))).symm) (by simp only [List.map_cons, List.map_nil, p_den])
  · exact fn_outS (N := 9) XA_ok GlobD.keep Tryz.func35 [] (fun s hs => by cases hs) (noSS hG) (args := [.agg [.nums 12 x, .nm (.bl true)]]) (q := [true]) (v := (.bl true)) (obs := [true = true]) 1 (by kernel_rfl) (hp (rfl) trivial) (fun v hv => by
      simp only [List.mem_cons, List.not_mem_nil, or_false] at hv
      obtain rfl := hv
      exact ⟨hx, trivial, trivial⟩) (by rw [ptv_t]; rfl) (by simp only [List.map_cons, List.map_nil, p_den]))
def T2 : List (FuncId × Ent2) := [(35, entG [.p 12] Pre0 (o1 fun x b => .bl (onB K1 (K1.F.int 4) (ptv K1 x b))))]
theorem T2_ok : TOk2 Tryz.prog GlobD T2 := ⟨.conG Tryz.func35 rfl (by decide) lOn, trivial⟩
def XB : Cx := ((Cx.of [(24, 6)] (tb L3)).eqs [(30, 12)]).more T2
theorem XB_ok : CxOk Tryz.prog XB GlobD := ((cx_ok (E := [(24, 6)]) L3 ⟨⟨G1K.eqF, G1K.gdF⟩, trivial⟩ (by kernel_rfl)).eqs (EM := [(30, 12)]) ⟨⟨eqG, gdG⟩, trivial⟩).more T2_ok
theorem nb_ {x l : List Int} : ¬ (ptW K1 (ptv K1 x false) = l ∧ ptB (ptv K1 x false) = true) := fun h => Bool.false_ne_true h.2
theorem tb_ (x : List Int) : ptW K1 (ptv K1 x true) = [0, 0, 0, 0, 0, 0, 0, 0, 0, 0, 0, 0] ∧ ptB (ptv K1 x true) = true := by
  rw [ptv_t]
  exact ⟨rfl, rfl⟩
theorem pteq {x y : List Int} : (ptW K1 (ptv K1 x false) = ptW K1 (ptv K1 y false) ∧ ptB (ptv K1 x false) = ptB (ptv K1 y false)) ↔ wr K1 (seg 0 6 x) = wr K1 (seg 0 6 y) ∧ wr K1 (seg 6 6 x) = wr K1 (seg 6 6 y) := by
  constructor
  · rintro ⟨h, _⟩
    rw [← rx, ← rx, ← ry, ← ry, h]
    exact ⟨rfl, rfl⟩
  · rintro ⟨h, k⟩
    rw [ptv_f, ptv_f]
    refine ⟨?_, rfl⟩
    show wr K1 (seg 0 6 x) ++ wr K1 (seg 6 6 x) = wr K1 (seg 0 6 y) ++ wr K1 (seg 6 6 y)
    rw [h, k]
theorem xsw_r (l p q : List Int) : xsw K1 l (wr K1 p) (wr K1 q) = xsw K1 l p q := by simp only [xsw, ws, wr, sub_r]
theorem ysw_r (l p q x : List Int) : ysw K1 l (wr K1 p) (wr K1 q) x = ysw K1 l p q x := by simp only [ysw, ws, wm, wr, sub_l, sub_r]
def ow1 (f : List Int → AV) : List AA → AV
  | [.w l] => f l
  | _ => .unk
def T3 : List (FuncId × Ent2) := []
theorem T3_ok : TOk2 Tryz.prog GlobD T3 := trivial
def XC : Cx := ((Cx.of [(24, 6)] (tb L3)).eqs [(30, 12)]).more T3
theorem XC_ok : CxOk Tryz.prog XC GlobD := ((cx_ok (E := [(24, 6)]) L3 ⟨⟨G1K.eqF, G1K.gdF⟩, trivial⟩ (by kernel_rfl)).eqs (EM := [(30, 12)]) ⟨⟨eqG, gdG⟩, trivial⟩).more T3_ok
def T4 : List (FuncId × Ent2) := []
def XD : Cx := ((Cx.of [(24, 6)] (tb L3)).eqs [(30, 12)]).more T4
/-- A fraction's point. -/
def pnW (l : List Int) : List Int := if seg 12 6 l = c0 then List.replicate 12 0 else nmW K1 (seg 0 6 l) (seg 6 6 l) (seg 12 6 l)
def pnB (l : List Int) : Bool := decide (seg 12 6 l = c0)
def PN (l : List Int) : AV := .agg [.nums 12 (pnW l), .nm (.bl (pnB l))]
def T5o : List (FuncId × Ent2) := []
theorem T5o_ok : TOk2 Tryz.prog GlobD T5o := trivial
def XE : Cx := ((Cx.of [(24, 6)] (tb L3)).eqs [(30, 12)]).more T5o
theorem XE_ok : CxOk Tryz.prog XE GlobD := ((cx_ok (E := [(24, 6)]) L3 ⟨⟨G1K.eqF, G1K.gdF⟩, trivial⟩ (by kernel_rfl)).eqs (EM := [(30, 12)]) ⟨⟨eqG, gdG⟩, trivial⟩).more T5o_ok
abbrev db_ (l : List Int) : List Int := dbF K1 c0 l
abbrev ps_ (x l : List Int) : List Int := psF K1 c0 c1 l x
section
variable (x o : List Int) (A : Option Addr) (n c : Nat) (l : List Int)
end
abbrev XM (A : Option Addr) (n : Nat) (l : List Int) (H : List (Nat × Ev)) : Cx := XE.sym (DM A n l) H
theorem XM_ok {A : Option Addr} {n : Nat} {l : List Int} {B : Nat} (hw : Words l) (H : List (Nat × Ev)) : CxB Tryz.prog (XM A n l H) (GM A n l B) :=
  XE_ok.toCxB.sym (fun u h => h.1.1) (fun A' n' l' h => by
    obtain ⟨rfl, rfl, rfl⟩ := h
    exact ⟨hw, B, fun u hu => ⟨hu.1.2, hu.2⟩⟩) H
section
variable {x o o' : List Int} {A : Option Addr} {n c : Nat} {l : List Int} {B S : Nat} {w : World}
theorem does (hw : Words l) (hG : ∀ u, RowKit.Below S w u → GM A n l B u) (c : Code) : Does Tryz.prog S 0 w c (evalC Tryz.prog (XM A n l []) 0 9 c) := code_ok (XM_ok hw []) hG c (fun _ _ _ h => by rw [hooked_nil] at h; cases h)
/-- The fraction behind so many rounds. -/
def jl (x : List Int) (n : Nat) (l : List Int) : Nat → List Int
  | 0 => List.replicate 18 0
  | k + 1 => if wd_ n l k % 2 = 1 then ps_ x (db_ (jl x n l k)) else db_ (jl x n l k)
end
abbrev PreSF : List AA → List Ob
  | [.sl _ _, .p _ b] => [b = false]
  | _ => []
def osp (f : List Int → List Int → AV) : List AA → AV
  | [.sl _ l, .p x _] => f l x
  | _ => .unk
def T6o : List (FuncId × Ent2) := [(35, entG [.p 12] Pre0 (o1 fun x b => .bl (onB K1 (K1.F.int 4) (ptv K1 x b))))]
def XF : Cx := ((Cx.of [(24, 6)] (tb L3)).eqs [(30, 12)]).more T6o
set_option maxRecDepth 100000 in
theorem lBase : ConG Tryz.prog GlobD 13 [] Pre0 (o0 BP) := con0 (fun n => ⟨nm_BL, trivial, trivial⟩) (fun gs => rfl) (fun w hG =>
  fn_outS (N := 9) XA_ok GlobD.keep Tryz.func13 [] (fun s hs => by cases hs) (noSS hG) (args := []) (q := []) (v := BP) (obs := []) 1 (by kernel_rfl) (trivial) (fun v hv => by cases hv) rfl rfl)
end Go.Proofs.YtmohopjblhgdiaaGreatDoor.S12O

/-
  Own text. Layer 13 by the reckoner: the landed package.
-/
namespace Go.Proofs.YtmohopjblhgdiaaGreatDoor.S13O
set_option linter.unusedVariables false
set_option linter.unusedSimpArgs false
open Go Go.RowKit Go.Proofs.YtmohopjblhgdiaaGreatDoor.Reg Go.Proofs.YtmohopjblhgdiaaGreatDoor.Base Go.Proofs.YtmohopjblhgdiaaGreatDoor.Limb Go.Proofs.YtmohopjblhgdiaaGreatDoor.Sx Go.Proofs.YtmohopjblhgdiaaGreatDoor.Fp Go.Proofs.YtmohopjblhgdiaaGreatDoor.Fp2 Go.Proofs.YtmohopjblhgdiaaGreatDoor.Ec Go.Proofs.YtmohopjblhgdiaaGreatDoor.Pts Go.Proofs.YtmohopjblhgdiaaGreatDoor.G2K Go.Proofs.YtmohopjblhgdiaaGreatDoor.S13R Go.Proofs.YtmohopjblhgdiaaGreatDoor.Ey

theorem pReduce : Con Tryz.prog GlobD 51 [12] (f1 fun x => W 12 (wr K2 x)) := S7.lReduce
theorem pAdd : Con Tryz.prog GlobD 50 [12, 12] (f2 fun x y => W 12 (wa K2 x y)) := S7.lAdd
theorem pSub : Con Tryz.prog GlobD 26 [12, 12] (f2 fun x y => W 12 (ws K2 x y)) := by rw [show (f2 fun x y => W 12 (ws K2 x y)) = f2 fun x y => W 12 (F2 (gs (v2 x) (v2 y))) from congrArg f2 (funext fun x => funext fun y => congrArg (W 12) (congrArg F2 (fsub _ _)))]; exact S7.lSub
theorem pNeg : Con Tryz.prog GlobD 27 [12] (f1 fun x => W 12 (wn K2 x)) := by rw [show (f1 fun x => W 12 (wn K2 x)) = f1 fun x => W 12 (F2 (gn (v2 x))) from congrArg f1 (funext fun x => congrArg (W 12) (congrArg F2 ((fsub _ _).trans (by show ((0 : Int) - (v2 x).1, (0 : Int) - (v2 x).2) = (-(v2 x).1, -(v2 x).2); rw [Int.zero_sub, Int.zero_sub]))))]; exact S7.lNeg
theorem pMul : Con Tryz.prog GlobD 20 [12, 12] (f2 fun x y => W 12 (wm K2 x y)) := S7.lMul
theorem pInv : Con Tryz.prog GlobD 21 [12] (f1 fun x => W 12 (wi K2 x)) := S7.lInv
def L0 : List (Fact Tryz.prog GlobD) := pReduce.fact (.con Tryz.func51 rfl (by decide) pReduce) ::
  pAdd.fact (.con Tryz.func50 rfl (by decide) pAdd) ::
  pSub.fact (.con Tryz.func26 rfl (by decide) pSub) ::
  pNeg.fact (.con Tryz.func27 rfl (by decide) pNeg) ::
  pMul.fact (.con Tryz.func20 rfl (by decide) pMul) ::
  pInv.fact (.con Tryz.func21 rfl (by decide) pInv) ::
  []
def X0 : Cx := .of [] (tb L0)
theorem X0_ok : CxOk Tryz.prog X0 GlobD := cx_ok L0 trivial (by kernel_rfl)
def L1 : List (Fact Tryz.prog GlobD) := ⟨46, entI 46 X0 9, .inline X0_ok GlobD.keep Tryz.func46 rfl (by decide)⟩ ::
  ⟨88, entI 88 X0 9, .inline X0_ok GlobD.keep Tryz.func88 rfl (by decide)⟩ ::
  L0
def X1 : Cx := .of [] (tb L1)
theorem X1_ok : CxOk Tryz.prog X1 GlobD := cx_ok L1 trivial (by kernel_rfl)
def L2 : List (Fact Tryz.prog GlobD) := ⟨87, entI 87 X1 9, .inline X1_ok GlobD.keep Tryz.func87 rfl (by decide)⟩ ::
  L1
def X2 : Cx := .of [] (tb L2)
theorem X2_ok : CxOk Tryz.prog X2 GlobD := cx_ok L2 trivial (by kernel_rfl)
def L3 : List (Fact Tryz.prog GlobD) := ⟨48, entI 48 X2 9, .inline X2_ok GlobD.keep Tryz.func48 rfl (by decide)⟩ ::
  ⟨49, entI 49 X2 9, .inline X2_ok GlobD.keep Tryz.func49 rfl (by decide)⟩ ::
  ⟨47, entI 47 X2 9, .inline X2_ok GlobD.keep Tryz.func47 rfl (by decide)⟩ ::
  L2
def XA : Cx := ((Cx.of [(26, 12)] (tb L3)).eqs [(28, 24)]).more []
theorem XA_ok : CxOk Tryz.prog XA GlobD := ((cx_ok (E := [(26, 12)]) L3 ⟨⟨G2K.eqF, G2K.gdF⟩, trivial⟩ (by kernel_rfl)).eqs (EM := [(28, 24)]) ⟨⟨eqG, gdG⟩, trivial⟩).more (T2 := []) trivial
set_option maxRecDepth 100000 in
theorem lReduce : ConG Tryz.prog GlobD 18 [.p 24] Pre0 (o1 fun x b => PA (ptv K2 x b)) := con1 (fun x b n => pa_ok _ _) (fun x b gs => by rw [pa_den, pa_den]) (fun x hx b w hG => by
  cases b
  · exact fn_outS (N := 9) XA_ok GlobD.keep Tryz.func18 [] (fun s hs => by cases hs) (noSS hG) (args := [.agg [.nums 24 x, .nm (.bl false)]]) (q := [false]) (v := (.agg [.nums 24 (wr K2 (seg 0 12 x) ++ wr K2 (seg 12 12 x)), .nm (.bl false)])) (obs := [false = false]) 1 (by kernel_rfl) (hp (rfl) trivial) (fun v hv => by
      simp only [List.mem_cons, List.not_mem_nil, or_false] at hv
      obtain rfl := hv
      exact ⟨hx, trivial, trivial⟩) (by rw [ptv_f]; rfl) (by simp only [List.map_cons, List.map_nil, p_den])
  · exact fn_outS (N := 9) XA_ok GlobD.keep Tryz.func18 [] (fun s hs => by cases hs) (noSS hG) (args := [.agg [.nums 24 x, .nm (.bl true)]]) (q := [true]) (v := (PA none)) (obs := [true = true]) 1 (by kernel_rfl) (hp (rfl) trivial) (fun v hv => by
      simp only [List.mem_cons, List.not_mem_nil, or_false] at hv
      obtain rfl := hv
      exact ⟨hx, trivial, trivial⟩) (by rw [ptv_t]) (by simp only [List.map_cons, List.map_nil, p_den]))
set_option maxRecDepth 100000 in
theorem lOn : ConG Tryz.prog GlobD 36 [.p 24] Pre0 (o1 fun x b => .bl (onB K2 bb (ptv K2 x b))) := con1 (fun x b n => trivial) (fun x b gs => rfl) (fun x hx b w hG => by
  cases b
  · have ho := on_wc (K := K2) (hb := hb) (seg 0 12 x) (seg 12 12 x)
    by_cases h : wm K2 (seg 12 12 x) (seg 12 12 x) = wa K2 (wm K2 (wm K2 (seg 0 12 x) (seg 0 12 x)) (seg 0 12 x)) cb
    · exact fn_outS (N := 9) XA_ok GlobD.keep Tryz.func36 [] (fun s hs => by cases hs) (noSS hG) (args := [.agg [.nums 24 x, .nm (.bl false)]]) (q := [false, true]) (v := (.bl true)) (obs := [false = false, qb true (wm K2 (seg 12 12 x) (seg 12 12 x) = wa K2 (wm K2 (wm K2 (seg 0 12 x) (seg 0 12 x)) (seg 0 12 x)) cb)]) 1 (by kernel_rfl) (hp (rfl) (hp (h) trivial)) (fun v hv => by
      simp only [List.mem_cons, List.not_mem_nil, or_false] at hv
      obtain rfl := hv
      exact ⟨hx, trivial, trivial⟩) (by rw [ptv_f]; exact congrArg Value.bool (ho.1 h).symm) (by simp only [List.map_cons, List.map_nil, p_den])
    · exact fn_outS (N := 9) XA_ok GlobD.keep Tryz.func36 [] (fun s hs => by cases hs) (noSS hG) (args := [.agg [.nums 24 x, .nm (.bl false)]]) (q := [false, false]) (v := (.bl false)) (obs := [false = false, qb false (wm K2 (seg 12 12 x) (seg 12 12 x) = wa K2 (wm K2 (wm K2 (seg 0 12 x) (seg 0 12 x)) (seg 0 12 x)) cb)]) 1 (by kernel_rfl) (hp (rfl) (hp (h) trivial)) (fun v hv => by
      simp only [List.mem_cons, List.not_mem_nil, or_false] at hv
      obtain rfl := hv
      exact ⟨hx, trivial, trivial⟩) (by rw [ptv_f]; exact congrArg Value.bool (Bool.eq_false_iff.2 (fun e => h (ho.2 e))).symm) (by simp only [List.map_cons, List.map_nil, p_den])
  · exact fn_outS (N := 9) XA_ok GlobD.keep Tryz.func36 [] (fun s hs => by cases hs) (noSS hG) (args := [.agg [.nums 24 x, .nm (.bl true)]]) (q := [true]) (v := (.bl true)) (obs := [true = true]) 1 (by kernel_rfl) (hp (rfl) trivial) (fun v hv => by
      simp only [List.mem_cons, List.not_mem_nil, or_false] at hv
      obtain rfl := hv
      exact ⟨hx, trivial, trivial⟩) (by rw [ptv_t]; rfl) (by simp only [List.map_cons, List.map_nil, p_den]))
def T2 : List (FuncId × Ent2) := [(18, entG [.p 24] Pre0 (o1 fun x b => PA (ptv K2 x b))), (36, entG [.p 24] Pre0 (o1 fun x b => .bl (onB K2 bb (ptv K2 x b))))]
theorem T2_ok : TOk2 Tryz.prog GlobD T2 := ⟨.conG Tryz.func18 rfl (by decide) lReduce, .conG Tryz.func36 rfl (by decide) lOn, trivial⟩
def XB : Cx := ((Cx.of [(26, 12)] (tb L3)).eqs [(28, 24)]).more T2
theorem XB_ok : CxOk Tryz.prog XB GlobD := ((cx_ok (E := [(26, 12)]) L3 ⟨⟨G2K.eqF, G2K.gdF⟩, trivial⟩ (by kernel_rfl)).eqs (EM := [(28, 24)]) ⟨⟨eqG, gdG⟩, trivial⟩).more T2_ok
theorem nb_ {x l : List Int} : ¬ (ptW K2 (ptv K2 x false) = l ∧ ptB (ptv K2 x false) = true) := fun h => Bool.false_ne_true h.2
theorem tb_ (x : List Int) : ptW K2 (ptv K2 x true) = [0, 0, 0, 0, 0, 0, 0, 0, 0, 0, 0, 0, 0, 0, 0, 0, 0, 0, 0, 0, 0, 0, 0, 0] ∧ ptB (ptv K2 x true) = true := by
  rw [ptv_t]
  exact ⟨rfl, rfl⟩
theorem pteq {x y : List Int} : (ptW K2 (ptv K2 x false) = ptW K2 (ptv K2 y false) ∧ ptB (ptv K2 x false) = ptB (ptv K2 y false)) ↔ wr K2 (seg 0 12 x) = wr K2 (seg 0 12 y) ∧ wr K2 (seg 12 12 x) = wr K2 (seg 12 12 y) := by
  constructor
  · rintro ⟨h, _⟩
    rw [← rx, ← rx, ← ry, ← ry, h]
    exact ⟨rfl, rfl⟩
  · rintro ⟨h, k⟩
    rw [ptv_f, ptv_f]
    refine ⟨?_, rfl⟩
    show wr K2 (seg 0 12 x) ++ wr K2 (seg 12 12 x) = wr K2 (seg 0 12 y) ++ wr K2 (seg 12 12 y)
    rw [h, k]
theorem xsw_r (l p q : List Int) : xsw K2 l (wr K2 p) (wr K2 q) = xsw K2 l p q := by simp only [xsw, ws, wr, sub_r]
theorem ysw_r (l p q x : List Int) : ysw K2 l (wr K2 p) (wr K2 q) x = ysw K2 l p q x := by simp only [ysw, ws, wm, wr, sub_l, sub_r]
set_option maxRecDepth 100000 in
theorem lAdd : ConG Tryz.prog GlobD 15 [.p 24, .p 24] Pre0 (o2 fun x b y c => PA (addP K2.F (ptv K2 x b) (ptv K2 y c))) := con2 (fun x b y c n => pa_ok _ _) (fun x b y c gs => by rw [pa_den, pa_den]) (fun x hx b y hy c w hG => by
  cases b
  · cases c
    · by_cases e1 : wr K2 (seg 0 12 x) = wr K2 (seg 0 12 y)
      · by_cases e2 : wr K2 (seg 12 12 x) = wr K2 (seg 12 12 y)
        · by_cases e3 : wr K2 (seg 12 12 x) = c0
          · exact fn_outS (N := 9) XB_ok GlobD.keep Tryz.func15 [] (fun s hs => by cases hs) (noSS hG) (args := [.agg [.nums 24 x, .nm (.bl false)], .agg [.nums 24 y, .nm (.bl false)]]) (q := [false, false, true, true, true]) (v := (PA none)) (obs := [qb false (ptW K2 (ptv K2 x false) = [0, 0, 0, 0, 0, 0, 0, 0, 0, 0, 0, 0, 0, 0, 0, 0, 0, 0, 0, 0, 0, 0, 0, 0] ∧ ptB (ptv K2 x false) = true), qb false (ptW K2 (ptv K2 y false) = [0, 0, 0, 0, 0, 0, 0, 0, 0, 0, 0, 0, 0, 0, 0, 0, 0, 0, 0, 0, 0, 0, 0, 0] ∧ ptB (ptv K2 y false) = true), qb true (ptW K2 (ptv K2 x false) = ptW K2 (ptv K2 y false) ∧ ptB (ptv K2 x false) = ptB (ptv K2 y false)), qb true ((seg 12 12 (ptW K2 (ptv K2 x false))) = [0, 0, 0, 0, 0, 0, 0, 0, 0, 0, 0, 0]), qb true ((seg 0 12 (ptW K2 (ptv K2 x false))) = (seg 0 12 (ptW K2 (ptv K2 y false))))]) 1 (by kernel_rfl) (hp (nb_) (hp (nb_) (hp (pteq.2 ⟨e1, e2⟩) (hp ((by rw [ry]; exact e3)) (hp ((by rw [rx, rx]; exact e1)) trivial))))) (fun v hv => by
      simp only [List.mem_cons, List.not_mem_nil, or_false] at hv
      rcases hv with rfl | rfl
      · exact ⟨hx, trivial, trivial⟩
      · exact ⟨hy, trivial, trivial⟩) (by rw [add_no K2 h0 (show (slF K2 c0 c2 c3 x y).2 = false by rw [show slF K2 c0 c2 c3 x y = (List.replicate 12 0, false) from (if_pos e1).trans (if_neg fun h => h.2 e3)])]) (by simp only [List.map_cons, List.map_nil, p_den])
          · exact fn_outS (N := 9) XB_ok GlobD.keep Tryz.func15 [] (fun s hs => by cases hs) (noSS hG) (args := [.agg [.nums 24 x, .nm (.bl false)], .agg [.nums 24 y, .nm (.bl false)]]) (q := [false, false, true, false]) (v := (.agg [.nums 24 (xsw K2 (slTl K2 (seg 0 12 (ptW K2 (ptv K2 x false))) (seg 12 12 (ptW K2 (ptv K2 x false)))) (seg 0 12 (ptW K2 (ptv K2 x false))) (seg 0 12 (ptW K2 (ptv K2 y false))) ++ ysw K2 (slTl K2 (seg 0 12 (ptW K2 (ptv K2 x false))) (seg 12 12 (ptW K2 (ptv K2 x false)))) (seg 0 12 (ptW K2 (ptv K2 x false))) (seg 12 12 (ptW K2 (ptv K2 x false))) (xsw K2 (slTl K2 (seg 0 12 (ptW K2 (ptv K2 x false))) (seg 12 12 (ptW K2 (ptv K2 x false)))) (seg 0 12 (ptW K2 (ptv K2 x false))) (seg 0 12 (ptW K2 (ptv K2 y false))))), .nm (.bl false)])) (obs := [qb false (ptW K2 (ptv K2 x false) = [0, 0, 0, 0, 0, 0, 0, 0, 0, 0, 0, 0, 0, 0, 0, 0, 0, 0, 0, 0, 0, 0, 0, 0] ∧ ptB (ptv K2 x false) = true), qb false (ptW K2 (ptv K2 y false) = [0, 0, 0, 0, 0, 0, 0, 0, 0, 0, 0, 0, 0, 0, 0, 0, 0, 0, 0, 0, 0, 0, 0, 0] ∧ ptB (ptv K2 y false) = true), qb true (ptW K2 (ptv K2 x false) = ptW K2 (ptv K2 y false) ∧ ptB (ptv K2 x false) = ptB (ptv K2 y false)), qb false ((seg 12 12 (ptW K2 (ptv K2 x false))) = [0, 0, 0, 0, 0, 0, 0, 0, 0, 0, 0, 0])]) 1 (by kernel_rfl) (hp (nb_) (hp (nb_) (hp (pteq.2 ⟨e1, e2⟩) (hp ((by rw [ry]; exact e3)) trivial)))) (fun v hv => by
      simp only [List.mem_cons, List.not_mem_nil, or_false] at hv
      rcases hv with rfl | rfl
      · exact ⟨hx, trivial, trivial⟩
      · exact ⟨hy, trivial, trivial⟩) (by
        have hs : slF K2 c0 c2 c3 x y = (slTw K2 c2 c3 (wr K2 (seg 0 12 x)) (wr K2 (seg 12 12 x)), true) := (if_pos e1).trans (if_pos ⟨e2, e3⟩)
        obtain ⟨k1, k2⟩ := add_yes K2 h2 h3 h0 (x := x) (y := y) (by rw [hs])
        rw [hs] at k1
        rw [pa_den, ← k1, k2, rx, ry, rx, slTl_ok K2 h2 h3, xsw_r, ysw_r]
        exact p_den) (by simp only [List.map_cons, List.map_nil, p_den])
        · exact fn_outS (N := 9) XB_ok GlobD.keep Tryz.func15 [] (fun s hs => by cases hs) (noSS hG) (args := [.agg [.nums 24 x, .nm (.bl false)], .agg [.nums 24 y, .nm (.bl false)]]) (q := [false, false, false, true]) (v := (PA none)) (obs := [qb false (ptW K2 (ptv K2 x false) = [0, 0, 0, 0, 0, 0, 0, 0, 0, 0, 0, 0, 0, 0, 0, 0, 0, 0, 0, 0, 0, 0, 0, 0] ∧ ptB (ptv K2 x false) = true), qb false (ptW K2 (ptv K2 y false) = [0, 0, 0, 0, 0, 0, 0, 0, 0, 0, 0, 0, 0, 0, 0, 0, 0, 0, 0, 0, 0, 0, 0, 0] ∧ ptB (ptv K2 y false) = true), qb false (ptW K2 (ptv K2 x false) = ptW K2 (ptv K2 y false) ∧ ptB (ptv K2 x false) = ptB (ptv K2 y false)), qb true ((seg 0 12 (ptW K2 (ptv K2 x false))) = (seg 0 12 (ptW K2 (ptv K2 y false))))]) 1 (by kernel_rfl) (hp (nb_) (hp (nb_) (hp (fun h => e2 (pteq.1 h).2) (hp ((by rw [rx, rx]; exact e1)) trivial)))) (fun v hv => by
      simp only [List.mem_cons, List.not_mem_nil, or_false] at hv
      rcases hv with rfl | rfl
      · exact ⟨hx, trivial, trivial⟩
      · exact ⟨hy, trivial, trivial⟩) (by rw [add_no K2 h0 (show (slF K2 c0 c2 c3 x y).2 = false by rw [show slF K2 c0 c2 c3 x y = (List.replicate 12 0, false) from (if_pos e1).trans (if_neg fun h => e2 h.1)])]) (by simp only [List.map_cons, List.map_nil, p_den])
      · exact fn_outS (N := 9) XB_ok GlobD.keep Tryz.func15 [] (fun s hs => by cases hs) (noSS hG) (args := [.agg [.nums 24 x, .nm (.bl false)], .agg [.nums 24 y, .nm (.bl false)]]) (q := [false, false, false, false]) (v := (.agg [.nums 24 (xsw K2 (slCw K2 (seg 0 12 (ptW K2 (ptv K2 x false))) (seg 12 12 (ptW K2 (ptv K2 x false))) (seg 0 12 (ptW K2 (ptv K2 y false))) (seg 12 12 (ptW K2 (ptv K2 y false)))) (seg 0 12 (ptW K2 (ptv K2 x false))) (seg 0 12 (ptW K2 (ptv K2 y false))) ++ ysw K2 (slCw K2 (seg 0 12 (ptW K2 (ptv K2 x false))) (seg 12 12 (ptW K2 (ptv K2 x false))) (seg 0 12 (ptW K2 (ptv K2 y false))) (seg 12 12 (ptW K2 (ptv K2 y false)))) (seg 0 12 (ptW K2 (ptv K2 x false))) (seg 12 12 (ptW K2 (ptv K2 x false))) (xsw K2 (slCw K2 (seg 0 12 (ptW K2 (ptv K2 x false))) (seg 12 12 (ptW K2 (ptv K2 x false))) (seg 0 12 (ptW K2 (ptv K2 y false))) (seg 12 12 (ptW K2 (ptv K2 y false)))) (seg 0 12 (ptW K2 (ptv K2 x false))) (seg 0 12 (ptW K2 (ptv K2 y false))))), .nm (.bl false)])) (obs := [qb false (ptW K2 (ptv K2 x false) = [0, 0, 0, 0, 0, 0, 0, 0, 0, 0, 0, 0, 0, 0, 0, 0, 0, 0, 0, 0, 0, 0, 0, 0] ∧ ptB (ptv K2 x false) = true), qb false (ptW K2 (ptv K2 y false) = [0, 0, 0, 0, 0, 0, 0, 0, 0, 0, 0, 0, 0, 0, 0, 0, 0, 0, 0, 0, 0, 0, 0, 0] ∧ ptB (ptv K2 y false) = true), qb false (ptW K2 (ptv K2 x false) = ptW K2 (ptv K2 y false) ∧ ptB (ptv K2 x false) = ptB (ptv K2 y false)), qb false ((seg 0 12 (ptW K2 (ptv K2 x false))) = (seg 0 12 (ptW K2 (ptv K2 y false))))]) 1 (by kernel_rfl) (hp (nb_) (hp (nb_) (hp (fun h => e1 (pteq.1 h).1) (hp ((by rw [rx, rx]; exact e1)) trivial)))) (fun v hv => by
      simp only [List.mem_cons, List.not_mem_nil, or_false] at hv
      rcases hv with rfl | rfl
      · exact ⟨hx, trivial, trivial⟩
      · exact ⟨hy, trivial, trivial⟩) (by
        have hs : slF K2 c0 c2 c3 x y = (slCw K2 (wr K2 (seg 0 12 x)) (wr K2 (seg 12 12 x)) (wr K2 (seg 0 12 y)) (wr K2 (seg 12 12 y)), true) := if_neg e1
        obtain ⟨k1, k2⟩ := add_yes K2 h2 h3 h0 (x := x) (y := y) (by rw [hs])
        rw [hs] at k1
        rw [pa_den, ← k1, k2, rx, ry, rx, ry, xsw_r, ysw_r]
        exact p_den) (by simp only [List.map_cons, List.map_nil, p_den])
    · exact fn_outS (N := 9) XB_ok GlobD.keep Tryz.func15 [] (fun s hs => by cases hs) (noSS hG) (args := [.agg [.nums 24 x, .nm (.bl false)], .agg [.nums 24 y, .nm (.bl true)]]) (q := [false, true]) (v := (PA (ptv K2 x false))) (obs := [qb false (ptW K2 (ptv K2 x false) = [0, 0, 0, 0, 0, 0, 0, 0, 0, 0, 0, 0, 0, 0, 0, 0, 0, 0, 0, 0, 0, 0, 0, 0] ∧ ptB (ptv K2 x false) = true), qb true (ptW K2 (ptv K2 y true) = [0, 0, 0, 0, 0, 0, 0, 0, 0, 0, 0, 0, 0, 0, 0, 0, 0, 0, 0, 0, 0, 0, 0, 0] ∧ ptB (ptv K2 y true) = true)]) 1 (by kernel_rfl) (hp (nb_) (hp (tb_ _) trivial)) (fun v hv => by
      simp only [List.mem_cons, List.not_mem_nil, or_false] at hv
      rcases hv with rfl | rfl
      · exact ⟨hx, trivial, trivial⟩
      · exact ⟨hy, trivial, trivial⟩) (by rw [ptv_t, ptv_f]; rfl) (by simp only [List.map_cons, List.map_nil, p_den])
  · exact fn_outS (N := 9) XB_ok GlobD.keep Tryz.func15 [] (fun s hs => by cases hs) (noSS hG) (args := [.agg [.nums 24 x, .nm (.bl true)], .agg [.nums 24 y, .nm (.bl c)]]) (q := [true]) (v := (PA (ptv K2 y c))) (obs := [qb true (ptW K2 (ptv K2 x true) = [0, 0, 0, 0, 0, 0, 0, 0, 0, 0, 0, 0, 0, 0, 0, 0, 0, 0, 0, 0, 0, 0, 0, 0] ∧ ptB (ptv K2 x true) = true)]) 1 (by kernel_rfl) (hp (tb_ _) trivial) (fun v hv => by
      simp only [List.mem_cons, List.not_mem_nil, or_false] at hv
      rcases hv with rfl | rfl
      · exact ⟨hx, trivial, trivial⟩
      · exact ⟨hy, trivial, trivial⟩) (by rw [ptv_t]; rfl) (by simp only [List.map_cons, List.map_nil, p_den]))
def ow1 (f : List Int → AV) : List AA → AV
  | [.w l] => f l
  | _ => .unk
def T3 : List (FuncId × Ent2) := []
theorem T3_ok : TOk2 Tryz.prog GlobD T3 := trivial
def XC : Cx := ((Cx.of [(26, 12)] (tb L3)).eqs [(28, 24)]).more T3
theorem XC_ok : CxOk Tryz.prog XC GlobD := ((cx_ok (E := [(26, 12)]) L3 ⟨⟨G2K.eqF, G2K.gdF⟩, trivial⟩ (by kernel_rfl)).eqs (EM := [(28, 24)]) ⟨⟨eqG, gdG⟩, trivial⟩).more T3_ok
def T4 : List (FuncId × Ent2) := []
def XD : Cx := ((Cx.of [(26, 12)] (tb L3)).eqs [(28, 24)]).more T4
/-- A fraction's point. -/
def pnW (l : List Int) : List Int := if seg 24 12 l = c0 then List.replicate 24 0 else nmW K2 (seg 0 12 l) (seg 12 12 l) (seg 24 12 l)
def pnB (l : List Int) : Bool := decide (seg 24 12 l = c0)
def PN (l : List Int) : AV := .agg [.nums 24 (pnW l), .nm (.bl (pnB l))]
def T5o : List (FuncId × Ent2) := []
theorem T5o_ok : TOk2 Tryz.prog GlobD T5o := trivial
def XE : Cx := ((Cx.of [(26, 12)] (tb L3)).eqs [(28, 24)]).more T5o
theorem XE_ok : CxOk Tryz.prog XE GlobD := ((cx_ok (E := [(26, 12)]) L3 ⟨⟨G2K.eqF, G2K.gdF⟩, trivial⟩ (by kernel_rfl)).eqs (EM := [(28, 24)]) ⟨⟨eqG, gdG⟩, trivial⟩).more T5o_ok
abbrev db_ (l : List Int) : List Int := dbF K2 c0 l
abbrev ps_ (x l : List Int) : List Int := psF K2 c0 c1 l x
section
variable (x o : List Int) (A : Option Addr) (n c : Nat) (l : List Int)
end
abbrev XM (A : Option Addr) (n : Nat) (l : List Int) (H : List (Nat × Ev)) : Cx := XE.sym (DM A n l) H
theorem XM_ok {A : Option Addr} {n : Nat} {l : List Int} {B : Nat} (hw : Words l) (H : List (Nat × Ev)) : CxB Tryz.prog (XM A n l H) (GM A n l B) :=
  XE_ok.toCxB.sym (fun u h => h.1.1) (fun A' n' l' h => by
    obtain ⟨rfl, rfl, rfl⟩ := h
    exact ⟨hw, B, fun u hu => ⟨hu.1.2, hu.2⟩⟩) H
section
variable {x o o' : List Int} {A : Option Addr} {n c : Nat} {l : List Int} {B S : Nat} {w : World}
theorem does (hw : Words l) (hG : ∀ u, RowKit.Below S w u → GM A n l B u) (c : Code) : Does Tryz.prog S 0 w c (evalC Tryz.prog (XM A n l []) 0 9 c) := code_ok (XM_ok hw []) hG c (fun _ _ _ h => by rw [hooked_nil] at h; cases h)
/-- The fraction behind so many rounds. -/
def jl (x : List Int) (n : Nat) (l : List Int) : Nat → List Int
  | 0 => List.replicate 36 0
  | k + 1 => if wd_ n l k % 2 = 1 then ps_ x (db_ (jl x n l k)) else db_ (jl x n l k)
end
abbrev PreSF : List AA → List Ob
  | [.sl _ _, .p _ b] => [b = false]
  | _ => []
def osp (f : List Int → List Int → AV) : List AA → AV
  | [.sl _ l, .p x _] => f l x
  | _ => .unk
def T6o : List (FuncId × Ent2) := [(36, entG [.p 24] Pre0 (o1 fun x b => .bl (onB K2 bb (ptv K2 x b))))]
def XF : Cx := ((Cx.of [(26, 12)] (tb L3)).eqs [(28, 24)]).more T6o
set_option maxRecDepth 100000 in
theorem lBase : ConG Tryz.prog GlobD 12 [] Pre0 (o0 BP) := con0 (fun n => ⟨nm_BL, trivial, trivial⟩) (fun gs => rfl) (fun w hG =>
  fn_outS (N := 9) XA_ok GlobD.keep Tryz.func12 [] (fun s hs => by cases hs) (noSS hG) (args := []) (q := []) (v := BP) (obs := []) 1 (by kernel_rfl) (trivial) (fun v hv => by cases hv) rfl rfl)
end Go.Proofs.YtmohopjblhgdiaaGreatDoor.S13O

