/-
  Own text. Identities in any commutative ring, by normal forms that the kernel reckons. Speaks of no program.
-/
import Derived.Test.YtgdimcnokagddaaDoorMReg
import Derived.Test.YtgdimcnokagddaaDoorMFp2M
namespace Go.Proofs.YtgdimcnokagddaaDoor.Ring
set_option linter.unusedVariables false

/-- A commutative ring, with its whole numbers. -/
structure Rg (α : Type) where
  add : α → α → α
  mul : α → α → α
  int : Int → α
  add_comm : ∀ a b, add a b = add b a
  add_assoc : ∀ a b c, add (add a b) c = add a (add b c)
  mul_comm : ∀ a b, mul a b = mul b a
  mul_assoc : ∀ a b c, mul (mul a b) c = mul a (mul b c)
  dist : ∀ a b c, mul a (add b c) = add (mul a b) (mul a c)
  int_add : ∀ a b, int (a + b) = add (int a) (int b)
  int_mul : ∀ a b, int (a * b) = mul (int a) (int b)
  add_zero : ∀ a, add a (int 0) = a
  mul_one : ∀ a, mul a (int 1) = a
  mul_zero : ∀ a, mul a (int 0) = int 0
/-- What is written with sums, differences, products, whole numbers and letters. -/
inductive Ex where
  | v (i : Nat)
  | n (z : Int)
  | a (p q : Ex)
  | s (p q : Ex)
  | m (p q : Ex)
  | g (p : Ex)
section
variable {α : Type} (R : Rg α) (en : Nat → α)
def pwr (x : α) : Nat → α
  | 0 => R.int 1
  | k + 1 => R.mul (pwr x k) x
def Ex.val : Ex → α
  | .v i => en i
  | .n z => R.int z
  | .a p q => R.add (p.val) (q.val)
  | .s p q => R.add (p.val) (R.mul (R.int (-1)) (q.val))
  | .m p q => R.mul (p.val) (q.val)
  | .g p => R.mul (R.int (-1)) (p.val)
/-- A product of letters: how often each, from letter i on. -/
abbrev Mo := List Nat
def Mo.val : Nat → Mo → α
  | _, [] => R.int 1
  | i, e :: m => R.mul (pwr R (en i) e) (Mo.val (i + 1) m)
def Mo.mul : Mo → Mo → Mo
  | [], m => m
  | e :: l, [] => e :: l
  | e :: l, f :: m => (e + f) :: Mo.mul l m
/-- A sum of such, each so many times. -/
abbrev Po := List (Mo × Int)
def Po.val : Po → α
  | [] => R.int 0
  | (m, c) :: p => R.add (R.mul (R.int c) (Mo.val R en 0 m)) (Po.val p)
end
/-- 0: one product; 1: the first is less; 2: greater. -/
def Mo.cmp : Mo → Mo → Nat
  | [], [] => 0
  | [], _ :: _ => 1
  | _ :: _, [] => 2
  | e :: l, f :: m => match Nat.beq e f with
    | true => Mo.cmp l m
    | false => match Nat.ble e f with
      | true => 1
      | false => 2
def isz : Int → Bool
  | .ofNat 0 => true
  | _ => false
/-- Two sums merged. -/
def Po.add : Nat → Po → Po → Po
  | 0, p, q => p ++ q
  | _ + 1, [], q => q
  | _ + 1, x :: p, [] => x :: p
  | n + 1, (m, c) :: p, (k, d) :: q => match Mo.cmp m k with
    | 0 => match isz (c + d) with
      | true => Po.add n p q
      | false => (m, c + d) :: Po.add n p q
    | 1 => (m, c) :: Po.add n p ((k, d) :: q)
    | _ => (k, d) :: Po.add n ((m, c) :: p) q
def Po.one (m : Mo) (c : Int) : Po → Po
  | [] => []
  | (k, d) :: p => (Mo.mul m k, c * d) :: Po.one m c p
def Po.mul : Po → Po → Po
  | [], _ => []
  | (m, c) :: p, q => Po.add 100000 (Po.one m c q) (Po.mul p q)
def Ex.norm : Ex → Po
  | .v i => [(List.replicate i 0 ++ [1], 1)]
  | .n z => if z = 0 then [] else [([], z)]
  | .a p q => Po.add 100000 p.norm q.norm
  | .s p q => Po.add 100000 p.norm (Po.one [] (-1) q.norm)
  | .m p q => Po.mul p.norm q.norm
  | .g p => Po.one [] (-1) p.norm
section
variable {α : Type} (R : Rg α) (en : Nat → α)
theorem one_mul (a : α) : R.mul (R.int 1) a = a := by rw [R.mul_comm, R.mul_one]
theorem zero_add (a : α) : R.add (R.int 0) a = a := by rw [R.add_comm, R.add_zero]
theorem zero_mul (a : α) : R.mul (R.int 0) a = R.int 0 := by rw [R.mul_comm, R.mul_zero]
theorem dist' (a b c : α) : R.mul (R.add a b) c = R.add (R.mul a c) (R.mul b c) := by rw [R.mul_comm, R.dist, R.mul_comm c a, R.mul_comm c b]
theorem pow_add (x : α) (j : Nat) : ∀ k, pwr R x (j + k) = R.mul (pwr R x j) (pwr R x k)
  | 0 => (R.mul_one _).symm
  | k + 1 => by rw [← Nat.add_assoc, pwr, pwr, pow_add x j k, R.mul_assoc]
theorem mswap (a b c d : α) : R.mul (R.mul a b) (R.mul c d) = R.mul (R.mul a c) (R.mul b d) := by rw [R.mul_assoc, ← R.mul_assoc b, R.mul_comm b c, R.mul_assoc c, ← R.mul_assoc]
theorem aswap (a b c : α) : R.add a (R.add b c) = R.add b (R.add a c) := by rw [← R.add_assoc, R.add_comm a b, R.add_assoc]
theorem mo_mul : ∀ (i : Nat) (l m : Mo), Mo.val R en i (Mo.mul l m) = R.mul (Mo.val R en i l) (Mo.val R en i m)
  | i, [], m => by rw [Mo.mul, Mo.val, one_mul]
  | i, e :: l, [] => by rw [Mo.mul, show Mo.val R en i [] = R.int 1 from rfl, R.mul_one]
  | i, e :: l, f :: m => by rw [Mo.mul, Mo.val, Mo.val, Mo.val, pow_add, mo_mul (i + 1) l m, mswap]
theorem cmp_eq : ∀ l m : Mo, Mo.cmp l m = 0 → l = m
  | [], [], _ => rfl
  | e :: l, f :: m, h => by
    unfold Mo.cmp at h
    split at h
    · next hb => rw [Nat.eq_of_beq_eq_true hb, cmp_eq l m h]
    · split at h <;> cases h
theorem isz_eq {z : Int} (h : isz z = true) : z = 0 := by
  unfold isz at h
  split at h
  · rfl
  · cases h
theorem po_app : ∀ p q : Po, Po.val R en (p ++ q) = R.add (Po.val R en p) (Po.val R en q)
  | [], q => by rw [List.nil_append, Po.val, zero_add]
  | (m, c) :: p, q => by rw [List.cons_append, Po.val, po_app p q, Po.val, R.add_assoc]
theorem po_add : ∀ (n : Nat) (p q : Po), Po.val R en (Po.add n p q) = R.add (Po.val R en p) (Po.val R en q)
  | 0, p, q => po_app R en p q
  | n + 1, [], q => by rw [Po.add, Po.val, zero_add]
  | n + 1, x :: p, [] => by rw [Po.add, show Po.val R en [] = R.int 0 from rfl, R.add_zero]
  | n + 1, (m, c) :: p, (k, d) :: q => by
    unfold Po.add
    split
    · next h =>
      have hk := cmp_eq _ _ h
      subst hk
      have e : R.add (Po.val R en ((m, c) :: p)) (Po.val R en ((m, d) :: q)) = R.add (R.mul (R.int (c + d)) (Mo.val R en 0 m)) (R.add (Po.val R en p) (Po.val R en q)) := by
        rw [Po.val, Po.val, R.int_add, dist', R.add_assoc, R.add_assoc, aswap R (Po.val R en p)]
      rw [e]
      split
      · next h0 => rw [isz_eq h0, zero_mul, zero_add, po_add n p q]
      · rw [Po.val, po_add n p q]
    · rw [Po.val, po_add n p ((k, d) :: q), ← R.add_assoc]
      rfl
    · rw [Po.val, po_add n ((m, c) :: p) q, aswap]
      rfl
theorem po_one (m : Mo) (c : Int) : ∀ p : Po, Po.val R en (Po.one m c p) = R.mul (R.mul (R.int c) (Mo.val R en 0 m)) (Po.val R en p)
  | [] => by rw [Po.one, Po.val, R.mul_zero]
  | (k, d) :: p => by rw [Po.one, Po.val, po_one m c p, Po.val, R.dist, mo_mul, R.int_mul, mswap]
theorem po_mul : ∀ p q : Po, Po.val R en (Po.mul p q) = R.mul (Po.val R en p) (Po.val R en q)
  | [], q => by rw [Po.mul, Po.val, zero_mul]
  | (m, c) :: p, q => by rw [Po.mul, po_add, po_one, po_mul p q, Po.val, dist']
theorem mo_var : ∀ (j i : Nat), Mo.val R en j (List.replicate i 0 ++ [1]) = en (j + i)
  | j, 0 => by
    show R.mul (R.mul (R.int 1) (en j)) (R.int 1) = _
    rw [R.mul_one, one_mul]
    rfl
  | j, i + 1 => by
    show R.mul (R.int 1) (Mo.val R en (j + 1) (List.replicate i 0 ++ [1])) = _
    rw [one_mul, mo_var (j + 1) i]
    congr 1
    omega
theorem norm_val : ∀ e : Ex, Po.val R en e.norm = e.val R en
  | .v i => by
    show R.add (R.mul (R.int 1) (Mo.val R en 0 (List.replicate i 0 ++ [1]))) (R.int 0) = en i
    rw [R.add_zero, one_mul, mo_var, Nat.zero_add]
  | .n z => by
    unfold Ex.norm
    split
    · next h => rw [h]; rfl
    · show R.add (R.mul (R.int z) (R.int 1)) (R.int 0) = _
      rw [R.add_zero, R.mul_one]
      rfl
  | .a p q => by rw [Ex.norm, po_add, norm_val p, norm_val q]; rfl
  | .s p q => by
    rw [Ex.norm, po_add, po_one, norm_val p, norm_val q]
    show R.add _ (R.mul (R.mul (R.int (-1)) (R.int 1)) _) = R.add _ _
    rw [R.mul_one]
  | .m p q => by rw [Ex.norm, po_mul, norm_val p, norm_val q]; rfl
  | .g p => by
    rw [Ex.norm, po_one, norm_val p]
    show R.mul (R.mul (R.int (-1)) (R.int 1)) _ = _
    rw [R.mul_one]
    rfl
/-- What has one normal form is the same in every ring. -/
theorem same {e f : Ex} (h : e.norm = f.norm) : e.val R en = f.val R en := by rw [← norm_val, ← norm_val, h]
end
end Go.Proofs.YtgdimcnokagddaaDoor.Ring

/-
  Own text. Fields whose numbers are written in more than one way (modulo p): whole numbers, and numbers with u. Speaks of no program.
-/
namespace Go.Proofs.YtgdimcnokagddaaDoor.Ec
set_option linter.unusedVariables false
open Go Go.Proofs.YtgdimcnokagddaaDoor.Ring Go.Proofs.YtgdimcnokagddaaDoor.Fp Go.Proofs.YtgdimcnokagddaaDoor.Fp2
/-- A commutative ring, which of its numbers are 0, and inverses of the others. -/
structure Fd (α : Type) extends Rg α where
  Z : α → Prop
  z0 : Z (int 0)
  za : ∀ {a b}, Z a → Z b → Z (add a b)
  zm : ∀ {a} (b), Z a → Z (mul a b)
  zd : ∀ {a b}, Z (mul a b) → Z a ∨ Z b
  inv : α → α
  zi : ∀ {a}, ¬ Z a → Z (add (mul a (inv a)) (int (-1)))
  ze : ∀ {n : Int}, Z (int n) ↔ n % PP = 0
def RI : Rg Int where
  add := (· + ·)
  mul := (· * ·)
  int := id
  add_comm := Int.add_comm
  add_assoc := Int.add_assoc
  mul_comm := Int.mul_comm
  mul_assoc := Int.mul_assoc
  dist := Int.mul_add
  int_add := fun _ _ => rfl
  int_mul := fun _ _ => rfl
  add_zero := Int.add_zero
  mul_one := Int.mul_one
  mul_zero := Int.mul_zero
/-- The numbers modulo p. -/
def FI : Fd Int where
  toRg := RI
  Z := fun a => a % PP = 0
  z0 := rfl
  za := fun {a b} h h' => by
    show (a + b) % PP = 0
    rw [Int.add_emod, h, h']; rfl
  zm := fun {a} b h => by
    show a * b % PP = 0
    rw [Int.mul_emod, h, Int.zero_mul]; rfl
  zd := fun h => PP_split h
  inv := fun a => pw a (PP - 2)
  zi := fun {a} h => by
    show (a * pw a (PP - 2) + -1) % PP = 0
    rw [Int.add_emod, pw_inverse h]
    decide +kernel
  ze := Iff.rfl
def RG : Rg G where
  add := ga
  mul := gm
  int := fun z => (z, 0)
  add_comm := ga_comm
  add_assoc := ga_assoc
  mul_comm := gm_comm
  mul_assoc := gm_assoc
  dist := gm_ga
  int_add := fun a b => by apply Prod.ext <;> simp [ga]
  int_mul := fun a b => by apply Prod.ext <;> simp [gm]
  add_zero := ga_zero
  mul_one := gm_one
  mul_zero := fun a => by apply Prod.ext <;> simp [gm]
/-- The numbers with u modulo p. -/
def FG : Fd G where
  toRg := RG
  Z := Z2
  z0 := ⟨rfl, rfl⟩
  za := fun {a b} h h' => ⟨by show (a.1 + b.1) % PP = 0; rw [Int.add_emod, h.1, h'.1]; rfl, by show (a.2 + b.2) % PP = 0; rw [Int.add_emod, h.2, h'.2]; rfl⟩
  zm := fun {a} b h => gm_zl h
  zd := fun {a b} h => by
    by_cases ha : Z2 a
    · exact .inl ha
    · exact .inr (gm_zero h ha)
  inv := gi
  zi := fun {a} h => by
    have h1 := gm_gi h
    refine ⟨?_, ?_⟩
    · show ((gm a (gi a)).1 + -1) % PP = 0
      rw [Int.add_emod, h1.1]
      decide +kernel
    · show ((gm a (gi a)).2 + 0) % PP = 0
      rw [Int.add_zero, h1.2]
      decide +kernel
  ze := fun {n} => ⟨fun h => h.1, fun h => ⟨h, rfl⟩⟩
section
variable {α : Type} (F : Fd α)
/-- The same number. -/
def Fd.eq (a b : α) : Prop := F.Z (F.add a (F.mul (F.int (-1)) b))
theorem Fd.eq_of {a b : α} (en : Nat → α) {e f : Ex} (he : e.val F.toRg en = a) (hf : f.val F.toRg en = b) (h : e.norm = f.norm) : a = b := by rw [← he, ← hf]; exact same F.toRg en h
theorem Fd.refl (a : α) : F.eq a a := by
  have h : F.add a (F.mul (F.int (-1)) a) = F.int 0 := F.eq_of (fun _ => a) (e := .s (.v 0) (.v 0)) (f := .n 0) rfl rfl (by decide)
  rw [Fd.eq, h]
  exact F.z0
theorem Fd.zm' {a : α} (b : α) (h : F.Z a) : F.Z (F.mul b a) := by rw [F.mul_comm]; exact F.zm b h
theorem Fd.symm {a b : α} (h : F.eq a b) : F.eq b a := by
  have e : F.add b (F.mul (F.int (-1)) a) = F.mul (F.int (-1)) (F.add a (F.mul (F.int (-1)) b)) := F.eq_of (fun i => match i with | 0 => a | _ => b) (e := .s (.v 1) (.v 0)) (f := .m (.n (-1)) (.s (.v 0) (.v 1))) rfl rfl (by decide)
  rw [Fd.eq, e]
  exact F.zm' _ h
theorem Fd.trans {a b c : α} (h : F.eq a b) (h' : F.eq b c) : F.eq a c := by
  have e : F.add a (F.mul (F.int (-1)) c) = F.add (F.add a (F.mul (F.int (-1)) b)) (F.add b (F.mul (F.int (-1)) c)) := F.eq_of (fun i => match i with | 0 => a | 1 => b | _ => c) (e := .s (.v 0) (.v 2)) (f := .a (.s (.v 0) (.v 1)) (.s (.v 1) (.v 2))) rfl rfl (by decide)
  rw [Fd.eq, e]
  exact F.za h h'
theorem Fd.add_eq {a b c d : α} (h : F.eq a b) (h' : F.eq c d) : F.eq (F.add a c) (F.add b d) := by
  have e : F.add (F.add a c) (F.mul (F.int (-1)) (F.add b d)) = F.add (F.add a (F.mul (F.int (-1)) b)) (F.add c (F.mul (F.int (-1)) d)) := F.eq_of (fun i => match i with | 0 => a | 1 => b | 2 => c | _ => d) (e := .s (.a (.v 0) (.v 2)) (.a (.v 1) (.v 3))) (f := .a (.s (.v 0) (.v 1)) (.s (.v 2) (.v 3))) rfl rfl (by decide)
  rw [Fd.eq, e]
  exact F.za h h'
theorem Fd.mul_eq {a b c d : α} (h : F.eq a b) (h' : F.eq c d) : F.eq (F.mul a c) (F.mul b d) := by
  have e : F.add (F.mul a c) (F.mul (F.int (-1)) (F.mul b d)) = F.add (F.mul (F.add a (F.mul (F.int (-1)) b)) c) (F.mul b (F.add c (F.mul (F.int (-1)) d))) := F.eq_of (fun i => match i with | 0 => a | 1 => b | 2 => c | _ => d) (e := .s (.m (.v 0) (.v 2)) (.m (.v 1) (.v 3))) (f := .a (.m (.s (.v 0) (.v 1)) (.v 2)) (.m (.v 1) (.s (.v 2) (.v 3)))) rfl rfl (by decide)
  rw [Fd.eq, e]
  exact F.za (F.zm _ h) (F.zm' _ h')
/-- To divide by what is not 0. -/
theorem Fd.cancel {a b c : α} (hc : ¬ F.Z c) (h : F.eq (F.mul a c) (F.mul b c)) : F.eq a b := by
  have e : F.add (F.mul a c) (F.mul (F.int (-1)) (F.mul b c)) = F.mul (F.add a (F.mul (F.int (-1)) b)) c := F.eq_of (fun i => match i with | 0 => a | 1 => b | _ => c) (e := .s (.m (.v 0) (.v 2)) (.m (.v 1) (.v 2))) (f := .m (.s (.v 0) (.v 1)) (.v 2)) rfl rfl (by decide)
  rw [Fd.eq, e] at h
  rcases F.zd h with h1 | h1
  · exact h1
  · exact absurd h1 hc
end
end Go.Proofs.YtgdimcnokagddaaDoor.Ec

/-
  Own text. Sums of points on y y = x x x + b: the identities by which they hang on no brackets, chords (c) and tangents (t). Speaks of no program.
-/
namespace Go.Proofs.YtgdimcnokagddaaDoor.Ec
open Go.Proofs.YtgdimcnokagddaaDoor.Ring
set_option maxRecDepth 100000
def C1 : Ex := (.s (.a (.m (.m (.n 2) (.v 4)) (.v 3)) (.m (.m (.v 4) (.v 4)) (.s (.v 0) (.v 2)))) (.a (.a (.m (.v 0) (.v 0)) (.m (.v 0) (.v 2))) (.m (.v 2) (.v 2))))
def C2 : Ex := (.s (.a (.m (.m (.n 2) (.v 5)) (.v 3)) (.m (.m (.v 5) (.v 5)) (.s (.v 1) (.v 2)))) (.a (.a (.m (.v 1) (.v 1)) (.m (.v 1) (.v 2))) (.m (.v 2) (.v 2))))
def Y1 : Ex := (.a (.v 3) (.m (.v 4) (.s (.v 0) (.v 2))))
def Y3 : Ex := (.a (.v 3) (.m (.v 5) (.s (.v 1) (.v 2))))
def X4 : Ex := (.s (.s (.m (.v 4) (.v 4)) (.v 0)) (.v 2))
def Y4 : Ex := (.g (.a (.v 3) (.m (.v 4) (.s X4 (.v 2)))))
def X5 : Ex := (.s (.s (.m (.v 5) (.v 5)) (.v 2)) (.v 1))
def Y5 : Ex := (.g (.a (.v 3) (.m (.v 5) (.s X5 (.v 2)))))
def Nc : Ex := (.s Y3 Y4)
def Dc : Ex := (.s (.v 1) X4)
def Nt : Ex := (.a (.a (.m (.v 1) (.v 1)) (.m (.v 1) X4)) (.m X4 X4))
def Dt : Ex := (.a Y3 Y4)
def Mc : Ex := (.s Y5 Y1)
def Fc : Ex := (.s X5 (.v 0))
def Mt : Ex := (.a (.a (.m X5 X5) (.m X5 (.v 0))) (.m (.v 0) (.v 0)))
def Ft : Ex := (.a Y5 Y1)
def Pv : Ex := (.a (.a (.v 0) (.m (.n (-1)) (.m (.v 4) (.v 4)))) (.m (.n 2) (.v 2)))
def Qv : Ex := (.a (.v 1) (.m (.n (-1)) (.v 2)))
def Wv : Ex := (.s (.m Nc Dt) (.m Nt Dc))
end Go.Proofs.YtgdimcnokagddaaDoor.Ec

/-
  Own text. Sums of points on y y = x x x + b: the identities by which they hang on no brackets, chords (c) and tangents (t). Speaks of no program.
-/
namespace Go.Proofs.YtgdimcnokagddaaDoor.Ec
open Go.Proofs.YtgdimcnokagddaaDoor.Ring
set_option maxRecDepth 100000
def Pxcc : Ex := (.a (.a (.a (.a (.a (.a (.a (.a (.a (.a (.a (.a (.a (.a (.a (.a (.a (.a (.a (.a (.a (.a (.a (.a (.a (.a (.a (.a (.a (.a (.a (.a (.a (.a (.a (.a (.a (.a (.a (.a (.a (.a (.a (.a (.m (.n (-2)) (.m (.m (.v 0) (.v 0)) (.v 0))) (.m (.n 2) (.m (.m (.v 2) (.v 2)) (.v 2)))) (.m (.n 4) (.m (.m (.v 1) (.v 1)) (.v 1)))) (.m (.v 2) (.m (.m (.m (.v 4) (.v 4)) (.v 4)) (.v 4)))) (.m (.m (.v 5) (.v 5)) (.m (.v 2) (.v 2)))) (.m (.m (.n (-1)) (.v 0)) (.m (.m (.m (.v 4) (.v 4)) (.v 4)) (.v 4)))) (.m (.m (.n (-1)) (.m (.v 4) (.v 4))) (.m (.v 2) (.v 2)))) (.m (.m (.n (-6)) (.v 2)) (.m (.v 0) (.v 0)))) (.m (.m (.n (-6)) (.v 1)) (.m (.v 0) (.v 0)))) (.m (.m (.n (-6)) (.m (.v 5) (.v 5))) (.m (.v 1) (.v 1)))) (.m (.m (.n (-4)) (.v 0)) (.m (.v 2) (.v 2)))) (.m (.m (.n (-4)) (.v 0)) (.m (.v 1) (.v 1)))) (.m (.m (.n (-2)) (.v 2)) (.m (.m (.m (.v 5) (.v 5)) (.v 5)) (.v 5)))) (.m (.m (.n (-2)) (.v 3)) (.m (.m (.v 4) (.v 4)) (.v 4)))) (.m (.m (.n (-2)) (.m (.m (.v 4) (.v 4)) (.v 4))) (.m (.m (.v 5) (.v 5)) (.v 5)))) (.m (.m (.n 2) (.v 1)) (.m (.m (.m (.v 5) (.v 5)) (.v 5)) (.v 5)))) (.m (.m (.n 2) (.m (.v 4) (.v 4))) (.m (.v 1) (.v 1)))) (.m (.m (.n 3) (.m (.v 4) (.v 4))) (.m (.v 0) (.v 0)))) (.m (.m (.n 3) (.m (.v 5) (.v 5))) (.m (.v 0) (.v 0)))) (.m (.m (.n 4) (.v 2)) (.m (.v 1) (.v 1)))) (.m (.m (.n 4) (.v 1)) (.m (.v 2) (.v 2)))) (.m (.m (.n 4) (.v 3)) (.m (.m (.v 5) (.v 5)) (.v 5)))) (.m (.m (.m (.n (-1)) (.v 2)) (.m (.v 4) (.v 4))) (.m (.v 5) (.v 5)))) (.m (.m (.m (.n (-10)) (.v 0)) (.v 2)) (.v 1))) (.m (.m (.m (.n (-8)) (.v 5)) (.v 1)) (.v 3))) (.m (.m (.m (.n (-6)) (.v 4)) (.v 5)) (.m (.v 2) (.v 2)))) (.m (.m (.m (.n (-4)) (.v 5)) (.v 2)) (.v 3))) (.m (.m (.m (.n (-3)) (.v 0)) (.m (.v 4) (.v 4))) (.m (.v 5) (.v 5)))) (.m (.m (.m (.n (-2)) (.v 4)) (.v 3)) (.m (.v 5) (.v 5)))) (.m (.m (.m (.n (-2)) (.v 1)) (.m (.v 4) (.v 4))) (.m (.v 5) (.v 5)))) (.m (.m (.m (.n 2) (.v 4)) (.v 0)) (.m (.m (.v 5) (.v 5)) (.v 5)))) (.m (.m (.m (.n 2) (.v 5)) (.v 1)) (.m (.m (.v 4) (.v 4)) (.v 4)))) (.m (.m (.m (.n 2) (.v 2)) (.v 1)) (.m (.v 4) (.v 4)))) (.m (.m (.m (.n 2) (.v 2)) (.v 1)) (.m (.v 5) (.v 5)))) (.m (.m (.m (.n 3) (.v 0)) (.v 2)) (.m (.v 4) (.v 4)))) (.m (.m (.m (.n 4) (.v 4)) (.v 0)) (.v 3))) (.m (.m (.m (.n 4) (.v 4)) (.v 2)) (.v 3))) (.m (.m (.m (.n 4) (.v 4)) (.v 2)) (.m (.m (.v 5) (.v 5)) (.v 5)))) (.m (.m (.m (.n 4) (.v 4)) (.v 1)) (.v 3))) (.m (.m (.m (.n 4) (.v 5)) (.v 2)) (.m (.m (.v 4) (.v 4)) (.v 4)))) (.m (.m (.m (.n 4) (.v 0)) (.v 1)) (.m (.v 5) (.v 5)))) (.m (.m (.m (.n 5) (.v 0)) (.v 2)) (.m (.v 5) (.v 5)))) (.m (.m (.m (.n 6) (.v 0)) (.v 1)) (.m (.v 4) (.v 4)))) (.m (.m (.m (.m (.n (-6)) (.v 4)) (.v 5)) (.v 0)) (.v 2))) (.m (.m (.m (.m (.n (-6)) (.v 4)) (.v 5)) (.v 2)) (.v 1)))
def Qxcc : Ex := (.a (.a (.a (.a (.a (.a (.a (.a (.a (.a (.a (.a (.a (.a (.a (.a (.a (.a (.a (.a (.a (.a (.a (.a (.a (.a (.a (.a (.a (.a (.a (.m (.n (-2)) (.m (.m (.v 2) (.v 2)) (.v 2))) (.m (.n 2) (.m (.m (.v 1) (.v 1)) (.v 1)))) (.m (.v 1) (.m (.m (.m (.v 5) (.v 5)) (.v 5)) (.v 5)))) (.m (.m (.n (-1)) (.v 2)) (.m (.m (.m (.v 5) (.v 5)) (.v 5)) (.v 5)))) (.m (.m (.n (-3)) (.m (.v 4) (.v 4))) (.m (.v 2) (.v 2)))) (.m (.m (.n (-3)) (.m (.v 4) (.v 4))) (.m (.v 1) (.v 1)))) (.m (.m (.n (-3)) (.m (.v 5) (.v 5))) (.m (.v 1) (.v 1)))) (.m (.m (.n 2) (.v 3)) (.m (.m (.v 5) (.v 5)) (.v 5)))) (.m (.m (.n 2) (.m (.m (.v 4) (.v 4)) (.v 4))) (.m (.m (.v 5) (.v 5)) (.v 5)))) (.m (.m (.n 3) (.m (.v 5) (.v 5))) (.m (.v 2) (.v 2)))) (.m (.m (.n 6) (.v 0)) (.m (.v 1) (.v 1)))) (.m (.m (.n 6) (.v 2)) (.m (.v 1) (.v 1)))) (.m (.m (.m (.n (-9)) (.v 2)) (.v 1)) (.m (.v 4) (.v 4)))) (.m (.m (.m (.n (-6)) (.v 0)) (.v 1)) (.m (.v 5) (.v 5)))) (.m (.m (.m (.n (-4)) (.v 4)) (.v 2)) (.m (.m (.v 5) (.v 5)) (.v 5)))) (.m (.m (.m (.n (-4)) (.v 4)) (.v 3)) (.m (.v 5) (.v 5)))) (.m (.m (.m (.n (-4)) (.v 5)) (.v 0)) (.v 3))) (.m (.m (.m (.n (-4)) (.v 5)) (.v 2)) (.v 3))) (.m (.m (.m (.n (-4)) (.v 5)) (.v 2)) (.m (.m (.v 4) (.v 4)) (.v 4)))) (.m (.m (.m (.n (-4)) (.v 5)) (.v 1)) (.v 3))) (.m (.m (.m (.n (-3)) (.v 2)) (.v 1)) (.m (.v 5) (.v 5)))) (.m (.m (.m (.n (-2)) (.v 4)) (.v 0)) (.m (.m (.v 5) (.v 5)) (.v 5)))) (.m (.m (.m (.n (-2)) (.v 5)) (.v 1)) (.m (.m (.v 4) (.v 4)) (.v 4)))) (.m (.m (.m (.n 2) (.v 5)) (.v 3)) (.m (.v 4) (.v 4)))) (.m (.m (.m (.n 3) (.v 2)) (.m (.v 4) (.v 4))) (.m (.v 5) (.v 5)))) (.m (.m (.m (.n 3) (.v 1)) (.m (.v 4) (.v 4))) (.m (.v 5) (.v 5)))) (.m (.m (.m (.n 4) (.v 4)) (.v 2)) (.v 3))) (.m (.m (.m (.n 6) (.v 4)) (.v 5)) (.m (.v 2) (.v 2)))) (.m (.m (.m (.n 6) (.v 0)) (.v 2)) (.v 1))) (.m (.m (.m (.n 8) (.v 4)) (.v 1)) (.v 3))) (.m (.m (.m (.m (.n 6) (.v 4)) (.v 5)) (.v 0)) (.v 2))) (.m (.m (.m (.m (.n 6) (.v 4)) (.v 5)) (.v 2)) (.v 1)))
def Wxcc : Ex := (.s (.s (.m (.m (.m Nc Nc) Fc) Fc) (.m (.m (.m Mc Mc) Dc) Dc)) (.m (.m (.m (.m (.s (.s (.a X4 (.v 1)) (.v 0)) X5) Dc) Dc) Fc) Fc))
theorem id_xcc : Wxcc.norm = (Ex.a (.m Pxcc C1) (.m Qxcc C2)).norm := by decide +kernel
end Go.Proofs.YtgdimcnokagddaaDoor.Ec

/-
  Own text. Sums of points on y y = x x x + b: the identities by which they hang on no brackets, chords (c) and tangents (t). Speaks of no program.
-/
namespace Go.Proofs.YtgdimcnokagddaaDoor.Ec
open Go.Proofs.YtgdimcnokagddaaDoor.Ring
set_option maxRecDepth 100000
def Pxct : Ex := (.a (.a (.a (.a (.a (.a (.a (.a (.a (.a (.a (.a (.a (.a (.a (.a (.a (.a (.a (.a (.a (.a (.a (.a (.a (.a (.a (.a (.a (.a (.a (.a (.a (.a (.a (.a (.a (.a (.a (.a (.a (.a (.a (.a (.a (.a (.a (.a (.a (.a (.a (.a (.a (.a (.a (.a (.a (.a (.a (.a (.a (.a (.a (.a (.a (.a (.a (.a (.a (.a (.a (.a (.a (.m (.m (.m (.v 0) (.v 0)) (.v 0)) (.v 0)) (.m (.n (-3)) (.m (.m (.m (.v 2) (.v 2)) (.v 2)) (.v 2)))) (.m (.m (.m (.m (.v 5) (.v 5)) (.v 5)) (.v 5)) (.m (.v 2) (.v 2)))) (.m (.m (.n (-1)) (.v 2)) (.m (.m (.v 0) (.v 0)) (.v 0)))) (.m (.m (.n (-6)) (.v 1)) (.m (.m (.v 2) (.v 2)) (.v 2)))) (.m (.m (.n (-6)) (.m (.v 2) (.v 2))) (.m (.v 1) (.v 1)))) (.m (.m (.n (-5)) (.m (.v 4) (.v 4))) (.m (.m (.v 2) (.v 2)) (.v 2)))) (.m (.m (.n (-3)) (.m (.v 4) (.v 4))) (.m (.m (.v 0) (.v 0)) (.v 0)))) (.m (.m (.n (-2)) (.v 2)) (.m (.m (.v 1) (.v 1)) (.v 1)))) (.m (.m (.n (-2)) (.m (.m (.v 4) (.v 4)) (.v 4))) (.m (.m (.m (.m (.v 5) (.v 5)) (.v 5)) (.v 5)) (.v 5)))) (.m (.m (.n 2) (.v 0)) (.m (.m (.v 1) (.v 1)) (.v 1)))) (.m (.m (.n 2) (.m (.v 4) (.v 4))) (.m (.m (.v 1) (.v 1)) (.v 1)))) (.m (.m (.n 2) (.m (.m (.m (.v 4) (.v 4)) (.v 4)) (.v 4))) (.m (.v 0) (.v 0)))) (.m (.m (.n 2) (.m (.m (.m (.v 4) (.v 4)) (.v 4)) (.v 4))) (.m (.v 2) (.v 2)))) (.m (.m (.n 2) (.m (.v 5) (.v 5))) (.m (.m (.v 0) (.v 0)) (.v 0)))) (.m (.m (.n 3) (.v 0)) (.m (.m (.v 2) (.v 2)) (.v 2)))) (.m (.m (.n 3) (.m (.m (.m (.v 5) (.v 5)) (.v 5)) (.v 5))) (.m (.v 0) (.v 0)))) (.m (.m (.v 0) (.m (.m (.m (.v 4) (.v 4)) (.v 4)) (.v 4))) (.m (.v 5) (.v 5)))) (.m (.m (.m (.v 4) (.v 4)) (.m (.v 5) (.v 5))) (.m (.v 2) (.v 2)))) (.m (.m (.m (.n (-1)) (.v 2)) (.m (.v 4) (.v 4))) (.m (.m (.m (.v 5) (.v 5)) (.v 5)) (.v 5)))) (.m (.m (.m (.n (-1)) (.v 2)) (.m (.m (.m (.v 4) (.v 4)) (.v 4)) (.v 4))) (.m (.v 5) (.v 5)))) (.m (.m (.m (.n (-10)) (.v 0)) (.m (.v 5) (.v 5))) (.m (.v 2) (.v 2)))) (.m (.m (.m (.n (-8)) (.v 4)) (.m (.m (.v 5) (.v 5)) (.v 5))) (.m (.v 2) (.v 2)))) (.m (.m (.m (.n (-8)) (.v 4)) (.m (.m (.v 5) (.v 5)) (.v 5))) (.m (.v 1) (.v 1)))) (.m (.m (.m (.n (-6)) (.v 5)) (.m (.m (.v 4) (.v 4)) (.v 4))) (.m (.v 2) (.v 2)))) (.m (.m (.m (.n (-6)) (.v 0)) (.m (.v 5) (.v 5))) (.m (.v 1) (.v 1)))) (.m (.m (.m (.n (-4)) (.v 0)) (.v 2)) (.m (.m (.m (.v 4) (.v 4)) (.v 4)) (.v 4)))) (.m (.m (.m (.n (-4)) (.v 0)) (.m (.m (.v 4) (.v 4)) (.v 4))) (.m (.m (.v 5) (.v 5)) (.v 5)))) (.m (.m (.m (.n (-4)) (.v 2)) (.m (.v 5) (.v 5))) (.m (.v 0) (.v 0)))) (.m (.m (.m (.n (-3)) (.v 0)) (.m (.v 4) (.v 4))) (.m (.m (.m (.v 5) (.v 5)) (.v 5)) (.v 5)))) (.m (.m (.m (.n (-3)) (.m (.v 4) (.v 4))) (.m (.v 5) (.v 5))) (.m (.v 0) (.v 0)))) (.m (.m (.m (.n (-2)) (.v 1)) (.m (.v 4) (.v 4))) (.m (.m (.m (.v 5) (.v 5)) (.v 5)) (.v 5)))) (.m (.m (.m (.n (-2)) (.v 1)) (.m (.v 5) (.v 5))) (.m (.v 0) (.v 0)))) (.m (.m (.m (.n (-2)) (.v 1)) (.m (.v 5) (.v 5))) (.m (.v 2) (.v 2)))) (.m (.m (.m (.n (-2)) (.v 3)) (.m (.m (.v 4) (.v 4)) (.v 4))) (.m (.v 5) (.v 5)))) (.m (.m (.m (.n 2) (.v 4)) (.v 0)) (.m (.m (.m (.m (.v 5) (.v 5)) (.v 5)) (.v 5)) (.v 5)))) (.m (.m (.m (.n 2) (.v 4)) (.v 3)) (.m (.v 0) (.v 0)))) (.m (.m (.m (.n 2) (.v 4)) (.v 3)) (.m (.v 2) (.v 2)))) (.m (.m (.m (.n 2) (.v 2)) (.v 1)) (.m (.m (.m (.v 5) (.v 5)) (.v 5)) (.v 5)))) (.m (.m (.m (.n 2) (.v 1)) (.m (.m (.v 4) (.v 4)) (.v 4))) (.m (.m (.v 5) (.v 5)) (.v 5)))) (.m (.m (.m (.n 3) (.v 0)) (.m (.v 4) (.v 4))) (.m (.v 2) (.v 2)))) (.m (.m (.m (.n 3) (.v 2)) (.m (.v 4) (.v 4))) (.m (.v 0) (.v 0)))) (.m (.m (.m (.n 4) (.v 4)) (.v 5)) (.m (.m (.v 1) (.v 1)) (.v 1)))) (.m (.m (.m (.n 4) (.v 4)) (.v 1)) (.m (.m (.m (.m (.v 5) (.v 5)) (.v 5)) (.v 5)) (.v 5)))) (.m (.m (.m (.n 4) (.v 4)) (.m (.m (.v 5) (.v 5)) (.v 5))) (.m (.v 0) (.v 0)))) (.m (.m (.m (.n 4) (.v 0)) (.v 1)) (.m (.m (.m (.v 5) (.v 5)) (.v 5)) (.v 5)))) (.m (.m (.m (.n 5) (.v 0)) (.v 2)) (.m (.m (.m (.v 5) (.v 5)) (.v 5)) (.v 5)))) (.m (.m (.m (.n 6) (.v 4)) (.v 3)) (.m (.m (.m (.v 5) (.v 5)) (.v 5)) (.v 5)))) (.m (.m (.m (.n 6) (.v 0)) (.v 2)) (.m (.v 1) (.v 1)))) (.m (.m (.m (.n 6) (.v 0)) (.v 1)) (.m (.v 2) (.v 2)))) (.m (.m (.m (.n 8) (.v 2)) (.m (.m (.v 4) (.v 4)) (.v 4))) (.m (.m (.v 5) (.v 5)) (.v 5)))) (.m (.m (.m (.n 16) (.v 4)) (.v 5)) (.m (.m (.v 2) (.v 2)) (.v 2)))) (.m (.m (.m (.m (.n (-16)) (.v 4)) (.v 2)) (.v 1)) (.m (.m (.v 5) (.v 5)) (.v 5)))) (.m (.m (.m (.m (.n (-14)) (.v 0)) (.v 2)) (.v 1)) (.m (.v 5) (.v 5)))) (.m (.m (.m (.m (.n (-12)) (.v 4)) (.v 2)) (.v 3)) (.m (.v 5) (.v 5)))) (.m (.m (.m (.m (.n (-8)) (.v 4)) (.v 5)) (.v 2)) (.m (.v 0) (.v 0)))) (.m (.m (.m (.m (.n (-6)) (.v 5)) (.v 2)) (.v 1)) (.m (.m (.v 4) (.v 4)) (.v 4)))) (.m (.m (.m (.m (.n (-4)) (.v 4)) (.v 5)) (.v 0)) (.m (.v 1) (.v 1)))) (.m (.m (.m (.m (.n (-4)) (.v 4)) (.v 5)) (.v 1)) (.m (.v 0) (.v 0)))) (.m (.m (.m (.m (.n (-4)) (.v 4)) (.v 0)) (.v 2)) (.v 3))) (.m (.m (.m (.m (.n (-4)) (.v 4)) (.v 0)) (.v 2)) (.m (.m (.v 5) (.v 5)) (.v 5)))) (.m (.m (.m (.m (.n (-4)) (.v 4)) (.v 1)) (.v 3)) (.m (.v 5) (.v 5)))) (.m (.m (.m (.m (.n (-4)) (.v 5)) (.v 1)) (.v 3)) (.m (.v 4) (.v 4)))) (.m (.m (.m (.m (.n 2) (.v 4)) (.v 0)) (.v 1)) (.m (.m (.v 5) (.v 5)) (.v 5)))) (.m (.m (.m (.m (.n 4) (.v 4)) (.v 0)) (.v 3)) (.m (.v 5) (.v 5)))) (.m (.m (.m (.m (.n 4) (.v 5)) (.v 2)) (.v 3)) (.m (.v 4) (.v 4)))) (.m (.m (.m (.m (.n 4) (.v 0)) (.v 1)) (.m (.v 4) (.v 4))) (.m (.v 5) (.v 5)))) (.m (.m (.m (.m (.n 5) (.v 0)) (.v 2)) (.m (.v 4) (.v 4))) (.m (.v 5) (.v 5)))) (.m (.m (.m (.m (.n 6) (.v 5)) (.v 0)) (.v 2)) (.m (.m (.v 4) (.v 4)) (.v 4)))) (.m (.m (.m (.m (.n 6) (.v 5)) (.v 0)) (.v 1)) (.m (.m (.v 4) (.v 4)) (.v 4)))) (.m (.m (.m (.m (.n 8) (.v 2)) (.v 1)) (.m (.v 4) (.v 4))) (.m (.v 5) (.v 5)))) (.m (.m (.m (.m (.n 16) (.v 4)) (.v 5)) (.v 2)) (.m (.v 1) (.v 1)))) (.m (.m (.m (.m (.n 24) (.v 4)) (.v 5)) (.v 1)) (.m (.v 2) (.v 2)))) (.m (.m (.m (.m (.m (.n (-8)) (.v 4)) (.v 5)) (.v 0)) (.v 2)) (.v 1)))
def Qxct : Ex := (.a (.a (.a (.a (.a (.a (.a (.a (.a (.a (.a (.a (.a (.a (.a (.a (.a (.a (.a (.a (.a (.a (.a (.a (.a (.a (.a (.a (.a (.a (.a (.a (.a (.a (.a (.a (.a (.a (.a (.a (.a (.a (.a (.a (.a (.a (.a (.a (.a (.a (.a (.a (.a (.a (.a (.a (.a (.a (.a (.a (.a (.a (.a (.a (.a (.a (.a (.a (.a (.a (.a (.m (.m (.m (.v 1) (.v 1)) (.v 1)) (.v 1)) (.m (.n 4) (.m (.m (.m (.v 2) (.v 2)) (.v 2)) (.v 2)))) (.m (.v 1) (.m (.m (.m (.m (.m (.v 5) (.v 5)) (.v 5)) (.v 5)) (.v 5)) (.v 5)))) (.m (.m (.m (.m (.v 4) (.v 4)) (.v 4)) (.v 4)) (.m (.v 2) (.v 2)))) (.m (.m (.m (.m (.v 4) (.v 4)) (.v 4)) (.v 4)) (.m (.v 1) (.v 1)))) (.m (.m (.n (-1)) (.v 2)) (.m (.m (.m (.m (.m (.v 5) (.v 5)) (.v 5)) (.v 5)) (.v 5)) (.v 5)))) (.m (.m (.n (-1)) (.m (.v 5) (.v 5))) (.m (.m (.v 1) (.v 1)) (.v 1)))) (.m (.m (.n (-1)) (.m (.m (.m (.v 5) (.v 5)) (.v 5)) (.v 5))) (.m (.v 1) (.v 1)))) (.m (.m (.n (-8)) (.m (.v 5) (.v 5))) (.m (.m (.v 2) (.v 2)) (.v 2)))) (.m (.m (.n (-2)) (.m (.v 4) (.v 4))) (.m (.m (.v 1) (.v 1)) (.v 1)))) (.m (.m (.n 2) (.v 3)) (.m (.m (.m (.m (.v 5) (.v 5)) (.v 5)) (.v 5)) (.v 5)))) (.m (.m (.n 2) (.m (.m (.v 4) (.v 4)) (.v 4))) (.m (.m (.m (.m (.v 5) (.v 5)) (.v 5)) (.v 5)) (.v 5)))) (.m (.m (.n 2) (.m (.m (.m (.v 4) (.v 4)) (.v 4)) (.v 4))) (.m (.m (.m (.v 5) (.v 5)) (.v 5)) (.v 5)))) (.m (.m (.n 5) (.v 2)) (.m (.m (.v 1) (.v 1)) (.v 1)))) (.m (.m (.n 5) (.m (.m (.m (.v 5) (.v 5)) (.v 5)) (.v 5))) (.m (.v 2) (.v 2)))) (.m (.m (.n 6) (.m (.v 4) (.v 4))) (.m (.m (.v 2) (.v 2)) (.v 2)))) (.m (.m (.n 8) (.v 1)) (.m (.m (.v 2) (.v 2)) (.v 2)))) (.m (.m (.n 9) (.m (.v 2) (.v 2))) (.m (.v 1) (.v 1)))) (.m (.m (.v 2) (.v 1)) (.m (.m (.m (.v 4) (.v 4)) (.v 4)) (.v 4)))) (.m (.m (.m (.n (-1)) (.v 2)) (.v 1)) (.m (.m (.m (.v 5) (.v 5)) (.v 5)) (.v 5)))) (.m (.m (.m (.n (-1)) (.v 1)) (.m (.v 4) (.v 4))) (.m (.m (.m (.v 5) (.v 5)) (.v 5)) (.v 5)))) (.m (.m (.m (.n (-16)) (.v 4)) (.v 5)) (.m (.m (.v 2) (.v 2)) (.v 2)))) (.m (.m (.m (.n (-8)) (.v 4)) (.v 3)) (.m (.v 2) (.v 2)))) (.m (.m (.m (.n (-8)) (.v 2)) (.v 3)) (.m (.m (.v 5) (.v 5)) (.v 5)))) (.m (.m (.m (.n (-8)) (.v 2)) (.m (.v 4) (.v 4))) (.m (.v 1) (.v 1)))) (.m (.m (.m (.n (-8)) (.v 1)) (.m (.v 4) (.v 4))) (.m (.v 2) (.v 2)))) (.m (.m (.m (.n (-6)) (.v 1)) (.m (.v 5) (.v 5))) (.m (.v 2) (.v 2)))) (.m (.m (.m (.n (-6)) (.v 3)) (.m (.v 4) (.v 4))) (.m (.m (.v 5) (.v 5)) (.v 5)))) (.m (.m (.m (.n (-4)) (.v 4)) (.v 2)) (.m (.m (.m (.m (.v 5) (.v 5)) (.v 5)) (.v 5)) (.v 5)))) (.m (.m (.m (.n (-4)) (.v 0)) (.m (.v 4) (.v 4))) (.m (.v 2) (.v 2)))) (.m (.m (.m (.n (-4)) (.v 2)) (.v 3)) (.m (.m (.v 4) (.v 4)) (.v 4)))) (.m (.m (.m (.n (-4)) (.v 2)) (.m (.m (.v 4) (.v 4)) (.v 4))) (.m (.m (.v 5) (.v 5)) (.v 5)))) (.m (.m (.m (.n (-4)) (.v 1)) (.v 3)) (.m (.m (.v 5) (.v 5)) (.v 5)))) (.m (.m (.m (.n (-3)) (.v 2)) (.m (.v 4) (.v 4))) (.m (.m (.m (.v 5) (.v 5)) (.v 5)) (.v 5)))) (.m (.m (.m (.n (-3)) (.v 2)) (.m (.m (.m (.v 4) (.v 4)) (.v 4)) (.v 4))) (.m (.v 5) (.v 5)))) (.m (.m (.m (.n (-3)) (.v 2)) (.m (.v 5) (.v 5))) (.m (.v 1) (.v 1)))) (.m (.m (.m (.n (-3)) (.v 1)) (.m (.m (.m (.v 4) (.v 4)) (.v 4)) (.v 4))) (.m (.v 5) (.v 5)))) (.m (.m (.m (.n (-2)) (.v 4)) (.v 0)) (.m (.m (.m (.m (.v 5) (.v 5)) (.v 5)) (.v 5)) (.v 5)))) (.m (.m (.m (.n (-2)) (.v 5)) (.m (.m (.v 4) (.v 4)) (.v 4))) (.m (.v 2) (.v 2)))) (.m (.m (.m (.n (-2)) (.v 0)) (.m (.v 4) (.v 4))) (.m (.m (.m (.v 5) (.v 5)) (.v 5)) (.v 5)))) (.m (.m (.m (.n (-2)) (.v 1)) (.m (.m (.v 4) (.v 4)) (.v 4))) (.m (.m (.v 5) (.v 5)) (.v 5)))) (.m (.m (.m (.n 2) (.v 5)) (.v 3)) (.m (.m (.m (.v 4) (.v 4)) (.v 4)) (.v 4)))) (.m (.m (.m (.n 2) (.v 5)) (.v 3)) (.m (.v 1) (.v 1)))) (.m (.m (.m (.n 2) (.v 0)) (.m (.v 4) (.v 4))) (.m (.v 1) (.v 1)))) (.m (.m (.m (.n 3) (.m (.v 4) (.v 4))) (.m (.v 5) (.v 5))) (.m (.v 2) (.v 2)))) (.m (.m (.m (.n 3) (.m (.v 4) (.v 4))) (.m (.v 5) (.v 5))) (.m (.v 1) (.v 1)))) (.m (.m (.m (.n 4) (.v 1)) (.v 3)) (.m (.m (.v 4) (.v 4)) (.v 4)))) (.m (.m (.m (.n 8) (.v 5)) (.v 3)) (.m (.v 2) (.v 2)))) (.m (.m (.m (.n 16) (.v 4)) (.m (.m (.v 5) (.v 5)) (.v 5))) (.m (.v 2) (.v 2)))) (.m (.m (.m (.m (.n (-16)) (.v 4)) (.v 5)) (.v 1)) (.m (.v 2) (.v 2)))) (.m (.m (.m (.m (.n (-8)) (.v 4)) (.v 5)) (.v 0)) (.m (.v 2) (.v 2)))) (.m (.m (.m (.m (.n (-4)) (.v 4)) (.v 5)) (.v 2)) (.m (.v 1) (.v 1)))) (.m (.m (.m (.m (.n (-4)) (.v 4)) (.v 0)) (.v 3)) (.m (.v 5) (.v 5)))) (.m (.m (.m (.m (.n (-4)) (.v 4)) (.v 2)) (.v 1)) (.v 3))) (.m (.m (.m (.m (.n (-4)) (.v 5)) (.v 0)) (.v 3)) (.m (.v 4) (.v 4)))) (.m (.m (.m (.m (.n (-4)) (.v 0)) (.v 2)) (.v 1)) (.m (.v 4) (.v 4)))) (.m (.m (.m (.m (.n (-2)) (.v 4)) (.v 0)) (.v 1)) (.m (.m (.v 5) (.v 5)) (.v 5)))) (.m (.m (.m (.m (.n (-2)) (.v 5)) (.v 0)) (.v 1)) (.m (.m (.v 4) (.v 4)) (.v 4)))) (.m (.m (.m (.m (.n 2) (.v 5)) (.v 0)) (.v 2)) (.m (.m (.v 4) (.v 4)) (.v 4)))) (.m (.m (.m (.m (.n 2) (.v 5)) (.v 2)) (.v 1)) (.m (.m (.v 4) (.v 4)) (.v 4)))) (.m (.m (.m (.m (.n 4) (.v 4)) (.v 5)) (.v 0)) (.m (.v 1) (.v 1)))) (.m (.m (.m (.m (.n 4) (.v 4)) (.v 0)) (.v 1)) (.v 3))) (.m (.m (.m (.m (.n 4) (.v 4)) (.v 2)) (.v 3)) (.m (.v 5) (.v 5)))) (.m (.m (.m (.m (.n 4) (.v 5)) (.v 1)) (.v 3)) (.m (.v 4) (.v 4)))) (.m (.m (.m (.m (.n 6) (.v 0)) (.v 2)) (.m (.v 4) (.v 4))) (.m (.v 5) (.v 5)))) (.m (.m (.m (.m (.n 8) (.v 4)) (.v 0)) (.v 2)) (.v 3))) (.m (.m (.m (.m (.n 8) (.v 4)) (.v 0)) (.v 2)) (.m (.m (.v 5) (.v 5)) (.v 5)))) (.m (.m (.m (.m (.n 8) (.v 4)) (.v 2)) (.v 1)) (.m (.m (.v 5) (.v 5)) (.v 5)))) (.m (.m (.m (.m (.n 8) (.v 5)) (.v 2)) (.v 1)) (.v 3))) (.m (.m (.m (.m (.n 9) (.v 2)) (.v 1)) (.m (.v 4) (.v 4))) (.m (.v 5) (.v 5)))) (.m (.m (.m (.m (.n 12) (.v 5)) (.v 2)) (.v 3)) (.m (.v 4) (.v 4)))) (.m (.m (.m (.m (.m (.n 4) (.v 4)) (.v 5)) (.v 0)) (.v 2)) (.v 1)))
def Wxct : Ex := (.s (.s (.m (.m (.m Nc Nc) Ft) Ft) (.m (.m (.m Mt Mt) Dc) Dc)) (.m (.m (.m (.m (.s (.s (.a X4 (.v 1)) (.v 0)) X5) Dc) Dc) Ft) Ft))
theorem id_xct : Wxct.norm = (Ex.a (.m Pxct C1) (.m Qxct C2)).norm := by decide +kernel
end Go.Proofs.YtgdimcnokagddaaDoor.Ec

/-
  Own text. Sums of points on y y = x x x + b: the identities by which they hang on no brackets, chords (c) and tangents (t). Speaks of no program.
-/
namespace Go.Proofs.YtgdimcnokagddaaDoor.Ec
open Go.Proofs.YtgdimcnokagddaaDoor.Ring
set_option maxRecDepth 100000
def Pxtc : Ex := (.a (.a (.a (.a (.a (.a (.a (.a (.a (.a (.a (.a (.a (.a (.a (.a (.a (.a (.a (.a (.a (.a (.a (.a (.a (.a (.a (.a (.a (.a (.a (.a (.a (.a (.a (.a (.a (.a (.a (.a (.a (.a (.a (.a (.a (.a (.a (.a (.a (.a (.a (.a (.a (.a (.a (.a (.a (.a (.a (.a (.a (.a (.a (.a (.a (.a (.a (.a (.a (.a (.a (.a (.a (.a (.a (.a (.a (.a (.a (.m (.n (-1)) (.m (.m (.m (.v 0) (.v 0)) (.v 0)) (.v 0))) (.m (.v 2) (.m (.m (.m (.m (.m (.v 4) (.v 4)) (.v 4)) (.v 4)) (.v 4)) (.v 4)))) (.m (.m (.v 4) (.v 4)) (.m (.m (.v 0) (.v 0)) (.v 0)))) (.m (.m (.m (.m (.v 4) (.v 4)) (.v 4)) (.v 4)) (.m (.v 0) (.v 0)))) (.m (.m (.m (.m (.v 5) (.v 5)) (.v 5)) (.v 5)) (.m (.v 2) (.v 2)))) (.m (.m (.n (-1)) (.v 0)) (.m (.m (.m (.m (.m (.v 4) (.v 4)) (.v 4)) (.v 4)) (.v 4)) (.v 4)))) (.m (.m (.n (-1)) (.m (.m (.m (.v 5) (.v 5)) (.v 5)) (.v 5))) (.m (.v 0) (.v 0)))) (.m (.m (.n (-9)) (.m (.v 0) (.v 0))) (.m (.v 2) (.v 2)))) (.m (.m (.n (-6)) (.v 0)) (.m (.m (.v 2) (.v 2)) (.v 2)))) (.m (.m (.n (-5)) (.v 2)) (.m (.m (.v 0) (.v 0)) (.v 0)))) (.m (.m (.n (-5)) (.m (.m (.m (.v 4) (.v 4)) (.v 4)) (.v 4))) (.m (.v 2) (.v 2)))) (.m (.m (.n (-4)) (.v 2)) (.m (.m (.v 1) (.v 1)) (.v 1)))) (.m (.m (.n (-2)) (.v 0)) (.m (.m (.v 1) (.v 1)) (.v 1)))) (.m (.m (.n (-2)) (.v 3)) (.m (.m (.m (.m (.v 4) (.v 4)) (.v 4)) (.v 4)) (.v 4)))) (.m (.m (.n (-2)) (.m (.m (.m (.v 4) (.v 4)) (.v 4)) (.v 4))) (.m (.m (.m (.v 5) (.v 5)) (.v 5)) (.v 5)))) (.m (.m (.n (-2)) (.m (.m (.m (.m (.v 4) (.v 4)) (.v 4)) (.v 4)) (.v 4))) (.m (.m (.v 5) (.v 5)) (.v 5)))) (.m (.m (.n 2) (.m (.v 5) (.v 5))) (.m (.m (.v 0) (.v 0)) (.v 0)))) (.m (.m (.n 4) (.m (.v 4) (.v 4))) (.m (.m (.v 1) (.v 1)) (.v 1)))) (.m (.m (.n 10) (.m (.v 4) (.v 4))) (.m (.m (.v 2) (.v 2)) (.v 2)))) (.m (.m (.v 0) (.v 2)) (.m (.m (.m (.v 4) (.v 4)) (.v 4)) (.v 4)))) (.m (.m (.v 0) (.m (.m (.m (.v 4) (.v 4)) (.v 4)) (.v 4))) (.m (.v 5) (.v 5)))) (.m (.m (.v 2) (.m (.v 4) (.v 4))) (.m (.m (.m (.v 5) (.v 5)) (.v 5)) (.v 5)))) (.m (.m (.m (.n (-12)) (.v 5)) (.m (.m (.v 4) (.v 4)) (.v 4))) (.m (.v 2) (.v 2)))) (.m (.m (.m (.n (-10)) (.v 4)) (.m (.m (.v 5) (.v 5)) (.v 5))) (.m (.v 2) (.v 2)))) (.m (.m (.m (.n (-8)) (.v 4)) (.v 3)) (.m (.v 2) (.v 2)))) (.m (.m (.m (.n (-6)) (.m (.v 4) (.v 4))) (.m (.v 5) (.v 5))) (.m (.v 1) (.v 1)))) (.m (.m (.m (.n (-4)) (.v 4)) (.m (.m (.v 5) (.v 5)) (.v 5))) (.m (.v 1) (.v 1)))) (.m (.m (.m (.n (-4)) (.v 1)) (.m (.m (.v 4) (.v 4)) (.v 4))) (.m (.m (.v 5) (.v 5)) (.v 5)))) (.m (.m (.m (.n (-3)) (.v 0)) (.v 2)) (.m (.m (.m (.v 5) (.v 5)) (.v 5)) (.v 5)))) (.m (.m (.m (.n (-3)) (.m (.v 4) (.v 4))) (.m (.v 5) (.v 5))) (.m (.v 0) (.v 0)))) (.m (.m (.m (.n (-3)) (.m (.v 4) (.v 4))) (.m (.v 5) (.v 5))) (.m (.v 2) (.v 2)))) (.m (.m (.m (.n (-2)) (.v 4)) (.v 3)) (.m (.m (.m (.v 5) (.v 5)) (.v 5)) (.v 5)))) (.m (.m (.m (.n (-2)) (.v 4)) (.v 3)) (.m (.v 0) (.v 0)))) (.m (.m (.m (.n (-2)) (.v 2)) (.v 1)) (.m (.m (.m (.v 5) (.v 5)) (.v 5)) (.v 5)))) (.m (.m (.m (.n (-2)) (.v 1)) (.m (.v 5) (.v 5))) (.m (.v 0) (.v 0)))) (.m (.m (.m (.n (-2)) (.v 1)) (.m (.v 5) (.v 5))) (.m (.v 2) (.v 2)))) (.m (.m (.m (.n (-2)) (.v 3)) (.m (.m (.v 4) (.v 4)) (.v 4))) (.m (.v 5) (.v 5)))) (.m (.m (.m (.n 2) (.v 5)) (.v 1)) (.m (.m (.m (.m (.v 4) (.v 4)) (.v 4)) (.v 4)) (.v 4)))) (.m (.m (.m (.n 2) (.v 0)) (.v 1)) (.m (.m (.m (.v 5) (.v 5)) (.v 5)) (.v 5)))) (.m (.m (.m (.n 2) (.v 0)) (.m (.m (.v 4) (.v 4)) (.v 4))) (.m (.m (.v 5) (.v 5)) (.v 5)))) (.m (.m (.m (.n 2) (.v 1)) (.m (.v 4) (.v 4))) (.m (.m (.m (.v 5) (.v 5)) (.v 5)) (.v 5)))) (.m (.m (.m (.n 2) (.v 1)) (.m (.m (.m (.v 4) (.v 4)) (.v 4)) (.v 4))) (.m (.v 5) (.v 5)))) (.m (.m (.m (.n 3) (.v 0)) (.m (.v 4) (.v 4))) (.m (.m (.m (.v 5) (.v 5)) (.v 5)) (.v 5)))) (.m (.m (.m (.n 3) (.v 2)) (.m (.v 4) (.v 4))) (.m (.v 0) (.v 0)))) (.m (.m (.m (.n 3) (.v 2)) (.m (.m (.m (.v 4) (.v 4)) (.v 4)) (.v 4))) (.m (.v 5) (.v 5)))) (.m (.m (.m (.n 4) (.v 4)) (.v 5)) (.m (.m (.v 2) (.v 2)) (.v 2)))) (.m (.m (.m (.n 4) (.v 4)) (.v 5)) (.m (.m (.v 1) (.v 1)) (.v 1)))) (.m (.m (.m (.n 4) (.v 5)) (.v 2)) (.m (.m (.m (.m (.v 4) (.v 4)) (.v 4)) (.v 4)) (.v 4)))) (.m (.m (.m (.n 4) (.v 5)) (.m (.m (.v 4) (.v 4)) (.v 4))) (.m (.v 1) (.v 1)))) (.m (.m (.m (.n 4) (.v 0)) (.v 3)) (.m (.m (.v 4) (.v 4)) (.v 4)))) (.m (.m (.m (.n 4) (.v 3)) (.m (.v 4) (.v 4))) (.m (.m (.v 5) (.v 5)) (.v 5)))) (.m (.m (.m (.n 6) (.v 0)) (.m (.v 4) (.v 4))) (.m (.v 2) (.v 2)))) (.m (.m (.m (.n 6) (.v 2)) (.m (.v 4) (.v 4))) (.m (.v 1) (.v 1)))) (.m (.m (.m (.n 6) (.v 2)) (.m (.v 5) (.v 5))) (.m (.v 1) (.v 1)))) (.m (.m (.m (.n 6) (.v 1)) (.m (.v 4) (.v 4))) (.m (.v 2) (.v 2)))) (.m (.m (.m (.n 8) (.v 0)) (.m (.v 5) (.v 5))) (.m (.v 2) (.v 2)))) (.m (.m (.m (.n 8) (.v 2)) (.v 3)) (.m (.m (.v 4) (.v 4)) (.v 4)))) (.m (.m (.m (.n 8) (.v 2)) (.m (.m (.v 4) (.v 4)) (.v 4))) (.m (.m (.v 5) (.v 5)) (.v 5)))) (.m (.m (.m (.n 8) (.v 2)) (.m (.v 5) (.v 5))) (.m (.v 0) (.v 0)))) (.m (.m (.m (.m (.n (-9)) (.v 0)) (.v 2)) (.m (.v 4) (.v 4))) (.m (.v 5) (.v 5)))) (.m (.m (.m (.m (.n (-8)) (.v 4)) (.v 5)) (.v 2)) (.m (.v 1) (.v 1)))) (.m (.m (.m (.m (.n (-8)) (.v 4)) (.v 0)) (.v 2)) (.v 3))) (.m (.m (.m (.m (.n (-8)) (.v 5)) (.v 0)) (.v 2)) (.m (.m (.v 4) (.v 4)) (.v 4)))) (.m (.m (.m (.m (.n (-8)) (.v 5)) (.v 2)) (.v 3)) (.m (.v 4) (.v 4)))) (.m (.m (.m (.m (.n (-6)) (.v 4)) (.v 0)) (.v 2)) (.m (.m (.v 5) (.v 5)) (.v 5)))) (.m (.m (.m (.m (.n (-6)) (.v 2)) (.v 1)) (.m (.v 4) (.v 4))) (.m (.v 5) (.v 5)))) (.m (.m (.m (.m (.n (-4)) (.v 4)) (.v 5)) (.v 0)) (.m (.v 1) (.v 1)))) (.m (.m (.m (.m (.n (-4)) (.v 4)) (.v 5)) (.v 1)) (.m (.v 0) (.v 0)))) (.m (.m (.m (.m (.n (-4)) (.v 4)) (.v 1)) (.v 3)) (.m (.v 5) (.v 5)))) (.m (.m (.m (.m (.n (-4)) (.v 5)) (.v 2)) (.v 1)) (.m (.m (.v 4) (.v 4)) (.v 4)))) (.m (.m (.m (.m (.n (-4)) (.v 5)) (.v 1)) (.v 3)) (.m (.v 4) (.v 4)))) (.m (.m (.m (.m (.n (-2)) (.v 0)) (.v 2)) (.v 1)) (.m (.v 5) (.v 5)))) (.m (.m (.m (.m (.n 2) (.v 5)) (.v 0)) (.v 1)) (.m (.m (.v 4) (.v 4)) (.v 4)))) (.m (.m (.m (.m (.n 4) (.v 4)) (.v 5)) (.v 2)) (.m (.v 0) (.v 0)))) (.m (.m (.m (.m (.n 4) (.v 4)) (.v 0)) (.v 3)) (.m (.v 5) (.v 5)))) (.m (.m (.m (.m (.n 6) (.v 4)) (.v 0)) (.v 1)) (.m (.m (.v 5) (.v 5)) (.v 5)))) (.m (.m (.m (.m (.n 12) (.v 4)) (.v 5)) (.v 0)) (.m (.v 2) (.v 2)))) (.m (.m (.m (.m (.n 12) (.v 4)) (.v 2)) (.v 3)) (.m (.v 5) (.v 5)))) (.m (.m (.m (.m (.n 14) (.v 4)) (.v 2)) (.v 1)) (.m (.m (.v 5) (.v 5)) (.v 5)))) (.m (.m (.m (.m (.m (.n (-8)) (.v 4)) (.v 5)) (.v 0)) (.v 2)) (.v 1)))
def Qxtc : Ex := (.a (.a (.a (.a (.a (.a (.a (.a (.a (.a (.a (.a (.a (.a (.a (.a (.a (.a (.a (.a (.a (.a (.a (.a (.a (.a (.a (.a (.a (.a (.a (.a (.a (.a (.a (.a (.a (.a (.a (.a (.a (.a (.a (.a (.a (.a (.a (.a (.a (.a (.a (.a (.a (.a (.a (.a (.a (.a (.a (.a (.a (.a (.a (.a (.m (.n (-1)) (.m (.m (.m (.v 2) (.v 2)) (.v 2)) (.v 2))) (.m (.n (-1)) (.m (.m (.m (.v 1) (.v 1)) (.v 1)) (.v 1)))) (.m (.v 2) (.m (.m (.v 1) (.v 1)) (.v 1)))) (.m (.v 1) (.m (.m (.v 2) (.v 2)) (.v 2)))) (.m (.m (.n (-6)) (.m (.v 4) (.v 4))) (.m (.m (.v 2) (.v 2)) (.v 2)))) (.m (.m (.n (-3)) (.m (.m (.m (.v 4) (.v 4)) (.v 4)) (.v 4))) (.m (.v 2) (.v 2)))) (.m (.m (.n (-3)) (.m (.m (.m (.v 4) (.v 4)) (.v 4)) (.v 4))) (.m (.v 1) (.v 1)))) (.m (.m (.n (-2)) (.m (.v 4) (.v 4))) (.m (.m (.v 1) (.v 1)) (.v 1)))) (.m (.m (.n (-2)) (.m (.m (.m (.v 5) (.v 5)) (.v 5)) (.v 5))) (.m (.v 2) (.v 2)))) (.m (.m (.n (-2)) (.m (.m (.m (.v 5) (.v 5)) (.v 5)) (.v 5))) (.m (.v 1) (.v 1)))) (.m (.m (.n 2) (.m (.m (.m (.m (.v 4) (.v 4)) (.v 4)) (.v 4)) (.v 4))) (.m (.m (.v 5) (.v 5)) (.v 5)))) (.m (.m (.n 3) (.m (.v 5) (.v 5))) (.m (.m (.v 2) (.v 2)) (.v 2)))) (.m (.m (.n 3) (.m (.v 5) (.v 5))) (.m (.m (.v 1) (.v 1)) (.v 1)))) (.m (.m (.v 2) (.m (.v 4) (.v 4))) (.m (.m (.m (.v 5) (.v 5)) (.v 5)) (.v 5)))) (.m (.m (.m (.n (-1)) (.v 1)) (.m (.v 4) (.v 4))) (.m (.m (.m (.v 5) (.v 5)) (.v 5)) (.v 5)))) (.m (.m (.m (.n (-1)) (.m (.v 4) (.v 4))) (.m (.v 5) (.v 5))) (.m (.v 2) (.v 2)))) (.m (.m (.m (.n (-9)) (.v 2)) (.v 1)) (.m (.m (.m (.v 4) (.v 4)) (.v 4)) (.v 4)))) (.m (.m (.m (.n (-8)) (.v 2)) (.m (.m (.v 4) (.v 4)) (.v 4))) (.m (.m (.v 5) (.v 5)) (.v 5)))) (.m (.m (.m (.n (-4)) (.v 4)) (.v 5)) (.m (.m (.v 2) (.v 2)) (.v 2)))) (.m (.m (.m (.n (-4)) (.v 5)) (.v 2)) (.m (.m (.m (.m (.v 4) (.v 4)) (.v 4)) (.v 4)) (.v 4)))) (.m (.m (.m (.n (-4)) (.v 5)) (.m (.m (.v 4) (.v 4)) (.v 4))) (.m (.v 1) (.v 1)))) (.m (.m (.m (.n (-4)) (.v 3)) (.m (.m (.v 4) (.v 4)) (.v 4))) (.m (.v 5) (.v 5)))) (.m (.m (.m (.n (-3)) (.v 2)) (.m (.v 5) (.v 5))) (.m (.v 1) (.v 1)))) (.m (.m (.m (.n (-3)) (.v 1)) (.m (.v 5) (.v 5))) (.m (.v 2) (.v 2)))) (.m (.m (.m (.n (-2)) (.v 5)) (.v 1)) (.m (.m (.m (.m (.v 4) (.v 4)) (.v 4)) (.v 4)) (.v 4)))) (.m (.m (.m (.n (-2)) (.v 5)) (.v 3)) (.m (.v 2) (.v 2)))) (.m (.m (.m (.n (-2)) (.v 5)) (.v 3)) (.m (.v 1) (.v 1)))) (.m (.m (.m (.n (-2)) (.v 0)) (.m (.m (.v 4) (.v 4)) (.v 4))) (.m (.m (.v 5) (.v 5)) (.v 5)))) (.m (.m (.m (.n 2) (.v 5)) (.v 3)) (.m (.m (.m (.v 4) (.v 4)) (.v 4)) (.v 4)))) (.m (.m (.m (.n 2) (.v 0)) (.m (.v 4) (.v 4))) (.m (.v 2) (.v 2)))) (.m (.m (.m (.n 2) (.v 0)) (.m (.v 4) (.v 4))) (.m (.v 1) (.v 1)))) (.m (.m (.m (.n 2) (.v 3)) (.m (.v 4) (.v 4))) (.m (.m (.v 5) (.v 5)) (.v 5)))) (.m (.m (.m (.n 3) (.v 2)) (.m (.m (.m (.v 4) (.v 4)) (.v 4)) (.v 4))) (.m (.v 5) (.v 5)))) (.m (.m (.m (.n 3) (.v 1)) (.m (.m (.m (.v 4) (.v 4)) (.v 4)) (.v 4))) (.m (.v 5) (.v 5)))) (.m (.m (.m (.n 3) (.m (.v 4) (.v 4))) (.m (.v 5) (.v 5))) (.m (.v 1) (.v 1)))) (.m (.m (.m (.n 4) (.v 2)) (.v 1)) (.m (.m (.m (.v 5) (.v 5)) (.v 5)) (.v 5)))) (.m (.m (.m (.n 4) (.v 2)) (.v 3)) (.m (.m (.v 4) (.v 4)) (.v 4)))) (.m (.m (.m (.n 4) (.v 2)) (.m (.v 4) (.v 4))) (.m (.v 1) (.v 1)))) (.m (.m (.m (.n 4) (.v 1)) (.m (.m (.v 4) (.v 4)) (.v 4))) (.m (.m (.v 5) (.v 5)) (.v 5)))) (.m (.m (.m (.n 6) (.v 4)) (.m (.m (.v 5) (.v 5)) (.v 5))) (.m (.v 2) (.v 2)))) (.m (.m (.m (.n 8) (.v 4)) (.v 3)) (.m (.v 2) (.v 2)))) (.m (.m (.m (.n 8) (.v 1)) (.v 3)) (.m (.m (.v 4) (.v 4)) (.v 4)))) (.m (.m (.m (.n 10) (.v 1)) (.m (.v 4) (.v 4))) (.m (.v 2) (.v 2)))) (.m (.m (.m (.n 16) (.v 5)) (.m (.m (.v 4) (.v 4)) (.v 4))) (.m (.v 2) (.v 2)))) (.m (.m (.m (.m (.n (-12)) (.v 5)) (.v 2)) (.v 3)) (.m (.v 4) (.v 4)))) (.m (.m (.m (.m (.n (-8)) (.v 4)) (.v 5)) (.v 0)) (.m (.v 2) (.v 2)))) (.m (.m (.m (.m (.n (-8)) (.v 4)) (.v 2)) (.v 1)) (.v 3))) (.m (.m (.m (.m (.n (-6)) (.v 4)) (.v 0)) (.v 1)) (.m (.m (.v 5) (.v 5)) (.v 5)))) (.m (.m (.m (.m (.n (-6)) (.v 4)) (.v 2)) (.v 1)) (.m (.m (.v 5) (.v 5)) (.v 5)))) (.m (.m (.m (.m (.n (-5)) (.v 2)) (.v 1)) (.m (.v 4) (.v 4))) (.m (.v 5) (.v 5)))) (.m (.m (.m (.m (.n (-4)) (.v 4)) (.v 5)) (.v 1)) (.m (.v 2) (.v 2)))) (.m (.m (.m (.m (.n (-4)) (.v 4)) (.v 0)) (.v 1)) (.v 3))) (.m (.m (.m (.m (.n (-4)) (.v 5)) (.v 0)) (.v 3)) (.m (.v 4) (.v 4)))) (.m (.m (.m (.m (.n (-4)) (.v 0)) (.v 1)) (.m (.v 4) (.v 4))) (.m (.v 5) (.v 5)))) (.m (.m (.m (.m (.n (-2)) (.v 0)) (.v 2)) (.m (.v 4) (.v 4))) (.m (.v 5) (.v 5)))) (.m (.m (.m (.m (.n 2) (.v 5)) (.v 0)) (.v 1)) (.m (.m (.v 4) (.v 4)) (.v 4)))) (.m (.m (.m (.m (.n 4) (.v 4)) (.v 5)) (.v 0)) (.m (.v 1) (.v 1)))) (.m (.m (.m (.m (.n 4) (.v 4)) (.v 0)) (.v 2)) (.v 3))) (.m (.m (.m (.m (.n 4) (.v 5)) (.v 0)) (.v 2)) (.m (.m (.v 4) (.v 4)) (.v 4)))) (.m (.m (.m (.m (.n 4) (.v 5)) (.v 2)) (.v 1)) (.v 3))) (.m (.m (.m (.m (.n 4) (.v 5)) (.v 1)) (.v 3)) (.m (.v 4) (.v 4)))) (.m (.m (.m (.m (.n 6) (.v 4)) (.v 0)) (.v 2)) (.m (.m (.v 5) (.v 5)) (.v 5)))) (.m (.m (.m (.m (.n 8) (.v 4)) (.v 5)) (.v 2)) (.m (.v 1) (.v 1)))) (.m (.m (.m (.m (.n 8) (.v 0)) (.v 2)) (.v 1)) (.m (.v 4) (.v 4)))) (.m (.m (.m (.m (.m (.n 4) (.v 4)) (.v 5)) (.v 0)) (.v 2)) (.v 1)))
def Wxtc : Ex := (.s (.s (.m (.m (.m Nt Nt) Fc) Fc) (.m (.m (.m Mc Mc) Dt) Dt)) (.m (.m (.m (.m (.s (.s (.a X4 (.v 1)) (.v 0)) X5) Dt) Dt) Fc) Fc))
theorem id_xtc : Wxtc.norm = (Ex.a (.m Pxtc C1) (.m Qxtc C2)).norm := by decide +kernel
end Go.Proofs.YtgdimcnokagddaaDoor.Ec

/-
  Own text. Sums of points on y y = x x x + b: the identities by which they hang on no brackets, chords (c) and tangents (t). Speaks of no program.
-/
namespace Go.Proofs.YtgdimcnokagddaaDoor.Ec
open Go.Proofs.YtgdimcnokagddaaDoor.Ring
set_option maxRecDepth 100000
def Pxtt : Ex := (.a (.a (.a (.a (.a (.a (.a (.a (.a (.a (.a (.a (.a (.a (.a (.a (.a (.a (.a (.a (.a (.a (.a (.a (.a (.a (.a (.a (.a (.a (.a (.a (.a (.a (.a (.a (.a (.a (.a (.a (.a (.a (.a (.a (.a (.a (.a (.a (.a (.a (.a (.a (.a (.a (.a (.a (.a (.a (.a (.a (.a (.a (.a (.a (.a (.a (.a (.a (.a (.a (.a (.a (.a (.a (.a (.a (.a (.a (.a (.a (.a (.a (.a (.a (.a (.a (.a (.a (.a (.a (.a (.a (.a (.a (.a (.a (.a (.a (.a (.a (.a (.a (.a (.a (.a (.a (.a (.a (.a (.a (.m (.m (.m (.m (.m (.m (.v 5) (.v 5)) (.v 5)) (.v 5)) (.v 5)) (.v 5)) (.m (.v 2) (.v 2))) (.m (.m (.n (-1)) (.m (.m (.m (.m (.m (.v 5) (.v 5)) (.v 5)) (.v 5)) (.v 5)) (.v 5))) (.m (.v 0) (.v 0)))) (.m (.m (.n (-3)) (.m (.v 5) (.v 5))) (.m (.m (.m (.v 2) (.v 2)) (.v 2)) (.v 2)))) (.m (.m (.n (-2)) (.m (.m (.m (.v 4) (.v 4)) (.v 4)) (.v 4))) (.m (.m (.m (.m (.m (.v 5) (.v 5)) (.v 5)) (.v 5)) (.v 5)) (.v 5)))) (.m (.m (.n (-2)) (.m (.m (.m (.v 4) (.v 4)) (.v 4)) (.v 4))) (.m (.m (.v 2) (.v 2)) (.v 2)))) (.m (.m (.n (-2)) (.m (.m (.m (.m (.v 4) (.v 4)) (.v 4)) (.v 4)) (.v 4))) (.m (.m (.m (.m (.v 5) (.v 5)) (.v 5)) (.v 5)) (.v 5)))) (.m (.m (.n 2) (.m (.m (.m (.v 4) (.v 4)) (.v 4)) (.v 4))) (.m (.m (.v 1) (.v 1)) (.v 1)))) (.m (.m (.v 0) (.m (.m (.m (.m (.m (.v 4) (.v 4)) (.v 4)) (.v 4)) (.v 4)) (.v 4))) (.m (.v 5) (.v 5)))) (.m (.m (.m (.n (-1)) (.v 2)) (.m (.m (.m (.m (.m (.v 4) (.v 4)) (.v 4)) (.v 4)) (.v 4)) (.v 4))) (.m (.v 5) (.v 5)))) (.m (.m (.m (.n (-15)) (.v 0)) (.m (.v 5) (.v 5))) (.m (.m (.v 2) (.v 2)) (.v 2)))) (.m (.m (.m (.n (-14)) (.m (.m (.v 4) (.v 4)) (.v 4))) (.m (.m (.v 5) (.v 5)) (.v 5))) (.m (.v 2) (.v 2)))) (.m (.m (.m (.n (-11)) (.m (.v 4) (.v 4))) (.m (.m (.m (.v 5) (.v 5)) (.v 5)) (.v 5))) (.m (.v 2) (.v 2)))) (.m (.m (.m (.n (-6)) (.v 4)) (.m (.m (.m (.m (.v 5) (.v 5)) (.v 5)) (.v 5)) (.v 5))) (.m (.v 2) (.v 2)))) (.m (.m (.m (.n (-6)) (.v 2)) (.m (.v 4) (.v 4))) (.m (.m (.v 1) (.v 1)) (.v 1)))) (.m (.m (.m (.n (-6)) (.v 2)) (.m (.v 5) (.v 5))) (.m (.m (.v 1) (.v 1)) (.v 1)))) (.m (.m (.m (.n (-6)) (.v 1)) (.m (.v 4) (.v 4))) (.m (.m (.v 2) (.v 2)) (.v 2)))) (.m (.m (.m (.n (-6)) (.m (.v 4) (.v 4))) (.m (.v 2) (.v 2))) (.m (.v 1) (.v 1)))) (.m (.m (.m (.n (-6)) (.m (.m (.v 4) (.v 4)) (.v 4))) (.m (.m (.v 5) (.v 5)) (.v 5))) (.m (.v 1) (.v 1)))) (.m (.m (.m (.n (-6)) (.m (.v 5) (.v 5))) (.m (.v 2) (.v 2))) (.m (.v 1) (.v 1)))) (.m (.m (.m (.n (-5)) (.m (.m (.m (.v 4) (.v 4)) (.v 4)) (.v 4))) (.m (.v 5) (.v 5))) (.m (.v 2) (.v 2)))) (.m (.m (.m (.n (-3)) (.v 0)) (.v 2)) (.m (.m (.m (.m (.m (.v 5) (.v 5)) (.v 5)) (.v 5)) (.v 5)) (.v 5)))) (.m (.m (.m (.n (-3)) (.v 0)) (.m (.m (.m (.v 4) (.v 4)) (.v 4)) (.v 4))) (.m (.m (.m (.v 5) (.v 5)) (.v 5)) (.v 5)))) (.m (.m (.m (.n (-3)) (.m (.m (.m (.v 4) (.v 4)) (.v 4)) (.v 4))) (.m (.v 5) (.v 5))) (.m (.v 0) (.v 0)))) (.m (.m (.m (.n (-3)) (.m (.v 5) (.v 5))) (.m (.v 0) (.v 0))) (.m (.v 2) (.v 2)))) (.m (.m (.m (.n (-2)) (.v 4)) (.v 3)) (.m (.m (.m (.m (.m (.v 5) (.v 5)) (.v 5)) (.v 5)) (.v 5)) (.v 5)))) (.m (.m (.m (.n (-2)) (.v 0)) (.m (.m (.m (.v 5) (.v 5)) (.v 5)) (.v 5))) (.m (.v 1) (.v 1)))) (.m (.m (.m (.n (-2)) (.v 2)) (.v 1)) (.m (.m (.m (.m (.m (.v 5) (.v 5)) (.v 5)) (.v 5)) (.v 5)) (.v 5)))) (.m (.m (.m (.n (-2)) (.v 1)) (.m (.m (.m (.v 5) (.v 5)) (.v 5)) (.v 5))) (.m (.v 2) (.v 2)))) (.m (.m (.m (.n (-2)) (.v 3)) (.m (.m (.m (.m (.v 4) (.v 4)) (.v 4)) (.v 4)) (.v 4))) (.m (.v 5) (.v 5)))) (.m (.m (.m (.n (-2)) (.m (.v 4) (.v 4))) (.m (.m (.m (.v 5) (.v 5)) (.v 5)) (.v 5))) (.m (.v 1) (.v 1)))) (.m (.m (.m (.n (-2)) (.m (.m (.v 4) (.v 4)) (.v 4))) (.m (.m (.v 5) (.v 5)) (.v 5))) (.m (.v 0) (.v 0)))) (.m (.m (.m (.n (-2)) (.m (.m (.m (.v 4) (.v 4)) (.v 4)) (.v 4))) (.m (.v 5) (.v 5))) (.m (.v 1) (.v 1)))) (.m (.m (.m (.n 2) (.v 4)) (.m (.m (.v 5) (.v 5)) (.v 5))) (.m (.m (.v 0) (.v 0)) (.v 0)))) (.m (.m (.m (.n 2) (.v 5)) (.m (.m (.v 4) (.v 4)) (.v 4))) (.m (.m (.v 2) (.v 2)) (.v 2)))) (.m (.m (.m (.n 2) (.v 5)) (.m (.m (.m (.m (.v 4) (.v 4)) (.v 4)) (.v 4)) (.v 4))) (.m (.v 2) (.v 2)))) (.m (.m (.m (.n 2) (.v 0)) (.v 1)) (.m (.m (.m (.m (.m (.v 5) (.v 5)) (.v 5)) (.v 5)) (.v 5)) (.v 5)))) (.m (.m (.m (.n 2) (.v 0)) (.m (.m (.v 4) (.v 4)) (.v 4))) (.m (.m (.m (.m (.v 5) (.v 5)) (.v 5)) (.v 5)) (.v 5)))) (.m (.m (.m (.n 2) (.v 1)) (.m (.m (.m (.v 4) (.v 4)) (.v 4)) (.v 4))) (.m (.m (.m (.v 5) (.v 5)) (.v 5)) (.v 5)))) (.m (.m (.m (.n 2) (.v 1)) (.m (.m (.m (.m (.v 4) (.v 4)) (.v 4)) (.v 4)) (.v 4))) (.m (.m (.v 5) (.v 5)) (.v 5)))) (.m (.m (.m (.n 2) (.v 1)) (.m (.m (.m (.v 5) (.v 5)) (.v 5)) (.v 5))) (.m (.v 0) (.v 0)))) (.m (.m (.m (.n 2) (.m (.v 4) (.v 4))) (.m (.v 5) (.v 5))) (.m (.m (.v 0) (.v 0)) (.v 0)))) (.m (.m (.m (.n 2) (.m (.v 4) (.v 4))) (.m (.v 5) (.v 5))) (.m (.m (.v 1) (.v 1)) (.v 1)))) (.m (.m (.m (.n 3) (.v 0)) (.m (.v 4) (.v 4))) (.m (.m (.m (.m (.m (.v 5) (.v 5)) (.v 5)) (.v 5)) (.v 5)) (.v 5)))) (.m (.m (.m (.n 3) (.v 2)) (.m (.v 4) (.v 4))) (.m (.m (.m (.m (.m (.v 5) (.v 5)) (.v 5)) (.v 5)) (.v 5)) (.v 5)))) (.m (.m (.m (.n 3) (.m (.v 4) (.v 4))) (.m (.m (.m (.v 5) (.v 5)) (.v 5)) (.v 5))) (.m (.v 0) (.v 0)))) (.m (.m (.m (.n 4) (.v 2)) (.m (.m (.v 4) (.v 4)) (.v 4))) (.m (.m (.m (.m (.v 5) (.v 5)) (.v 5)) (.v 5)) (.v 5)))) (.m (.m (.m (.n 4) (.v 2)) (.m (.m (.m (.m (.v 4) (.v 4)) (.v 4)) (.v 4)) (.v 4))) (.m (.m (.v 5) (.v 5)) (.v 5)))) (.m (.m (.m (.n 4) (.v 2)) (.m (.m (.m (.v 5) (.v 5)) (.v 5)) (.v 5))) (.m (.v 0) (.v 0)))) (.m (.m (.m (.n 6) (.v 5)) (.m (.m (.v 4) (.v 4)) (.v 4))) (.m (.m (.v 1) (.v 1)) (.v 1)))) (.m (.m (.m (.n 6) (.v 0)) (.m (.v 4) (.v 4))) (.m (.m (.v 2) (.v 2)) (.v 2)))) (.m (.m (.m (.n 6) (.v 1)) (.m (.v 5) (.v 5))) (.m (.m (.v 2) (.v 2)) (.v 2)))) (.m (.m (.m (.n 6) (.v 3)) (.m (.m (.v 4) (.v 4)) (.v 4))) (.m (.m (.m (.v 5) (.v 5)) (.v 5)) (.v 5)))) (.m (.m (.m (.n 7) (.v 2)) (.m (.m (.m (.v 4) (.v 4)) (.v 4)) (.v 4))) (.m (.m (.m (.v 5) (.v 5)) (.v 5)) (.v 5)))) (.m (.m (.m (.n 8) (.v 2)) (.m (.m (.m (.v 5) (.v 5)) (.v 5)) (.v 5))) (.m (.v 1) (.v 1)))) (.m (.m (.m (.n 10) (.v 4)) (.m (.m (.v 5) (.v 5)) (.v 5))) (.m (.m (.v 2) (.v 2)) (.v 2)))) (.m (.m (.m (.n 13) (.m (.v 4) (.v 4))) (.m (.v 5) (.v 5))) (.m (.m (.v 2) (.v 2)) (.v 2)))) (.m (.m (.m (.n 14) (.v 0)) (.m (.m (.m (.v 5) (.v 5)) (.v 5)) (.v 5))) (.m (.v 2) (.v 2)))) (.m (.m (.m (.m (.n (-12)) (.v 4)) (.v 2)) (.m (.m (.v 5) (.v 5)) (.v 5))) (.m (.v 1) (.v 1)))) (.m (.m (.m (.m (.n (-12)) (.v 1)) (.v 3)) (.m (.m (.v 4) (.v 4)) (.v 4))) (.m (.v 5) (.v 5)))) (.m (.m (.m (.m (.n (-9)) (.v 0)) (.v 2)) (.m (.v 4) (.v 4))) (.m (.m (.m (.v 5) (.v 5)) (.v 5)) (.v 5)))) (.m (.m (.m (.m (.n (-6)) (.v 4)) (.v 5)) (.v 2)) (.m (.m (.v 0) (.v 0)) (.v 0)))) (.m (.m (.m (.m (.n (-6)) (.v 4)) (.v 5)) (.v 1)) (.m (.m (.v 2) (.v 2)) (.v 2)))) (.m (.m (.m (.m (.n (-6)) (.v 4)) (.v 5)) (.m (.v 0) (.v 0))) (.m (.v 2) (.v 2)))) (.m (.m (.m (.m (.n (-6)) (.v 4)) (.v 0)) (.v 2)) (.m (.m (.m (.m (.v 5) (.v 5)) (.v 5)) (.v 5)) (.v 5)))) (.m (.m (.m (.m (.n (-6)) (.v 4)) (.v 0)) (.m (.m (.v 5) (.v 5)) (.v 5))) (.m (.v 1) (.v 1)))) (.m (.m (.m (.m (.n (-6)) (.v 4)) (.v 3)) (.m (.v 5) (.v 5))) (.m (.v 2) (.v 2)))) (.m (.m (.m (.m (.n (-6)) (.v 0)) (.v 2)) (.v 1)) (.m (.m (.m (.v 5) (.v 5)) (.v 5)) (.v 5)))) (.m (.m (.m (.m (.n (-6)) (.v 2)) (.v 1)) (.m (.m (.v 4) (.v 4)) (.v 4))) (.m (.m (.v 5) (.v 5)) (.v 5)))) (.m (.m (.m (.m (.n (-6)) (.v 2)) (.v 1)) (.m (.v 5) (.v 5))) (.m (.v 0) (.v 0)))) (.m (.m (.m (.m (.n (-6)) (.v 1)) (.m (.v 4) (.v 4))) (.m (.v 5) (.v 5))) (.m (.v 0) (.v 0)))) (.m (.m (.m (.m (.n (-4)) (.v 5)) (.v 0)) (.m (.m (.v 4) (.v 4)) (.v 4))) (.m (.v 2) (.v 2)))) (.m (.m (.m (.m (.n (-4)) (.v 5)) (.v 1)) (.v 3)) (.m (.m (.m (.v 4) (.v 4)) (.v 4)) (.v 4)))) (.m (.m (.m (.m (.n (-4)) (.v 2)) (.v 3)) (.m (.v 4) (.v 4))) (.m (.m (.v 5) (.v 5)) (.v 5)))) (.m (.m (.m (.m (.n (-4)) (.v 2)) (.v 3)) (.m (.m (.v 4) (.v 4)) (.v 4))) (.m (.v 5) (.v 5)))) (.m (.m (.m (.m (.n (-2)) (.v 5)) (.v 0)) (.v 2)) (.m (.m (.m (.m (.v 4) (.v 4)) (.v 4)) (.v 4)) (.v 4)))) (.m (.m (.m (.m (.n (-2)) (.v 5)) (.v 2)) (.v 1)) (.m (.m (.m (.m (.v 4) (.v 4)) (.v 4)) (.v 4)) (.v 4)))) (.m (.m (.m (.m (.n (-2)) (.v 5)) (.v 1)) (.m (.m (.v 4) (.v 4)) (.v 4))) (.m (.v 0) (.v 0)))) (.m (.m (.m (.m (.n (-2)) (.v 0)) (.v 2)) (.m (.m (.v 4) (.v 4)) (.v 4))) (.m (.m (.v 5) (.v 5)) (.v 5)))) (.m (.m (.m (.m (.n (-2)) (.v 0)) (.m (.v 4) (.v 4))) (.m (.v 5) (.v 5))) (.m (.v 1) (.v 1)))) (.m (.m (.m (.m (.n (-2)) (.v 2)) (.v 1)) (.m (.v 4) (.v 4))) (.m (.m (.m (.v 5) (.v 5)) (.v 5)) (.v 5)))) (.m (.m (.m (.m (.n (-2)) (.v 2)) (.v 1)) (.m (.m (.m (.v 4) (.v 4)) (.v 4)) (.v 4))) (.m (.v 5) (.v 5)))) (.m (.m (.m (.m (.n 2) (.v 5)) (.v 0)) (.v 1)) (.m (.m (.m (.m (.v 4) (.v 4)) (.v 4)) (.v 4)) (.v 4)))) (.m (.m (.m (.m (.n 2) (.v 1)) (.m (.v 4) (.v 4))) (.m (.v 5) (.v 5))) (.m (.v 2) (.v 2)))) (.m (.m (.m (.m (.n 3) (.v 0)) (.v 2)) (.m (.m (.m (.v 4) (.v 4)) (.v 4)) (.v 4))) (.m (.v 5) (.v 5)))) (.m (.m (.m (.m (.n 4) (.v 4)) (.v 1)) (.v 3)) (.m (.m (.m (.v 5) (.v 5)) (.v 5)) (.v 5)))) (.m (.m (.m (.m (.n 4) (.v 5)) (.v 2)) (.v 3)) (.m (.m (.m (.v 4) (.v 4)) (.v 4)) (.v 4)))) (.m (.m (.m (.m (.n 4) (.v 0)) (.v 3)) (.m (.v 4) (.v 4))) (.m (.m (.v 5) (.v 5)) (.v 5)))) (.m (.m (.m (.m (.n 4) (.v 0)) (.v 3)) (.m (.m (.v 4) (.v 4)) (.v 4))) (.m (.v 5) (.v 5)))) (.m (.m (.m (.m (.n 6) (.v 4)) (.v 5)) (.v 0)) (.m (.m (.v 2) (.v 2)) (.v 2)))) (.m (.m (.m (.m (.n 6) (.v 4)) (.v 5)) (.v 2)) (.m (.m (.v 1) (.v 1)) (.v 1)))) (.m (.m (.m (.m (.n 6) (.v 4)) (.v 5)) (.m (.v 2) (.v 2))) (.m (.v 1) (.v 1)))) (.m (.m (.m (.m (.n 6) (.v 4)) (.v 0)) (.v 1)) (.m (.m (.m (.m (.v 5) (.v 5)) (.v 5)) (.v 5)) (.v 5)))) (.m (.m (.m (.m (.n 6) (.v 4)) (.v 0)) (.m (.m (.v 5) (.v 5)) (.v 5))) (.m (.v 2) (.v 2)))) (.m (.m (.m (.m (.n 6) (.v 4)) (.v 2)) (.v 1)) (.m (.m (.m (.m (.v 5) (.v 5)) (.v 5)) (.v 5)) (.v 5)))) (.m (.m (.m (.m (.n 6) (.v 0)) (.v 2)) (.m (.v 4) (.v 4))) (.m (.v 1) (.v 1)))) (.m (.m (.m (.m (.n 6) (.v 0)) (.v 2)) (.m (.v 5) (.v 5))) (.m (.v 1) (.v 1)))) (.m (.m (.m (.m (.n 6) (.v 0)) (.v 1)) (.m (.v 4) (.v 4))) (.m (.v 2) (.v 2)))) (.m (.m (.m (.m (.n 6) (.v 0)) (.v 1)) (.m (.m (.m (.v 4) (.v 4)) (.v 4)) (.v 4))) (.m (.v 5) (.v 5)))) (.m (.m (.m (.m (.n 7) (.v 0)) (.m (.v 4) (.v 4))) (.m (.v 5) (.v 5))) (.m (.v 2) (.v 2)))) (.m (.m (.m (.m (.n 8) (.v 4)) (.v 2)) (.v 3)) (.m (.m (.m (.v 5) (.v 5)) (.v 5)) (.v 5)))) (.m (.m (.m (.m (.n 8) (.v 5)) (.v 2)) (.m (.m (.v 4) (.v 4)) (.v 4))) (.m (.v 0) (.v 0)))) (.m (.m (.m (.m (.n 8) (.v 2)) (.m (.v 4) (.v 4))) (.m (.v 5) (.v 5))) (.m (.v 1) (.v 1)))) (.m (.m (.m (.m (.n 12) (.v 5)) (.v 2)) (.m (.m (.v 4) (.v 4)) (.v 4))) (.m (.v 1) (.v 1)))) (.m (.m (.m (.m (.n 22) (.v 5)) (.v 1)) (.m (.m (.v 4) (.v 4)) (.v 4))) (.m (.v 2) (.v 2)))) (.m (.m (.m (.m (.m (.n (-12)) (.v 4)) (.v 2)) (.v 1)) (.v 3)) (.m (.v 5) (.v 5)))) (.m (.m (.m (.m (.m (.n (-12)) (.v 5)) (.v 0)) (.v 2)) (.v 3)) (.m (.v 4) (.v 4)))) (.m (.m (.m (.m (.m (.n (-8)) (.v 5)) (.v 0)) (.v 2)) (.v 1)) (.m (.m (.v 4) (.v 4)) (.v 4)))) (.m (.m (.m (.m (.m (.n (-8)) (.v 0)) (.v 2)) (.v 1)) (.m (.v 4) (.v 4))) (.m (.v 5) (.v 5)))) (.m (.m (.m (.m (.m (.n (-6)) (.v 4)) (.v 5)) (.v 0)) (.v 2)) (.m (.v 1) (.v 1)))) (.m (.m (.m (.m (.m (.n 6) (.v 4)) (.v 5)) (.v 2)) (.v 1)) (.m (.v 0) (.v 0)))) (.m (.m (.m (.m (.m (.n 12) (.v 5)) (.v 2)) (.v 1)) (.v 3)) (.m (.v 4) (.v 4))))
def Qxtt : Ex := (.a (.a (.a (.a (.a (.a (.a (.a (.a (.a (.a (.a (.a (.a (.a (.a (.a (.a (.a (.a (.a (.a (.a (.a (.a (.a (.a (.a (.a (.a (.a (.a (.a (.a (.a (.a (.a (.a (.a (.a (.a (.a (.a (.a (.a (.a (.a (.a (.a (.a (.a (.a (.a (.a (.a (.a (.a (.a (.a (.a (.a (.a (.a (.a (.a (.a (.a (.a (.a (.a (.a (.a (.a (.a (.a (.a (.a (.a (.a (.a (.a (.m (.m (.m (.m (.m (.m (.v 4) (.v 4)) (.v 4)) (.v 4)) (.v 4)) (.v 4)) (.m (.v 2) (.v 2))) (.m (.m (.m (.m (.m (.m (.v 4) (.v 4)) (.v 4)) (.v 4)) (.v 4)) (.v 4)) (.m (.v 1) (.v 1)))) (.m (.m (.n 2) (.m (.m (.m (.v 4) (.v 4)) (.v 4)) (.v 4))) (.m (.m (.v 2) (.v 2)) (.v 2)))) (.m (.m (.n 2) (.m (.m (.m (.m (.v 4) (.v 4)) (.v 4)) (.v 4)) (.v 4))) (.m (.m (.m (.m (.v 5) (.v 5)) (.v 5)) (.v 5)) (.v 5)))) (.m (.m (.n 2) (.m (.m (.m (.m (.m (.v 4) (.v 4)) (.v 4)) (.v 4)) (.v 4)) (.v 4))) (.m (.m (.m (.v 5) (.v 5)) (.v 5)) (.v 5)))) (.m (.m (.n 3) (.m (.v 4) (.v 4))) (.m (.m (.m (.v 2) (.v 2)) (.v 2)) (.v 2)))) (.m (.m (.v 2) (.v 1)) (.m (.m (.m (.m (.m (.v 4) (.v 4)) (.v 4)) (.v 4)) (.v 4)) (.v 4)))) (.m (.m (.v 2) (.m (.v 4) (.v 4))) (.m (.m (.m (.m (.m (.v 5) (.v 5)) (.v 5)) (.v 5)) (.v 5)) (.v 5)))) (.m (.m (.m (.n (-1)) (.v 1)) (.m (.v 4) (.v 4))) (.m (.m (.m (.m (.m (.v 5) (.v 5)) (.v 5)) (.v 5)) (.v 5)) (.v 5)))) (.m (.m (.m (.n (-16)) (.v 5)) (.m (.m (.v 4) (.v 4)) (.v 4))) (.m (.m (.v 2) (.v 2)) (.v 2)))) (.m (.m (.m (.n (-13)) (.m (.v 4) (.v 4))) (.m (.v 5) (.v 5))) (.m (.m (.v 2) (.v 2)) (.v 2)))) (.m (.m (.m (.n (-12)) (.v 0)) (.m (.v 4) (.v 4))) (.m (.m (.v 2) (.v 2)) (.v 2)))) (.m (.m (.m (.n (-10)) (.v 1)) (.m (.m (.m (.v 4) (.v 4)) (.v 4)) (.v 4))) (.m (.v 2) (.v 2)))) (.m (.m (.m (.n (-7)) (.v 2)) (.m (.m (.m (.v 4) (.v 4)) (.v 4)) (.v 4))) (.m (.m (.m (.v 5) (.v 5)) (.v 5)) (.v 5)))) (.m (.m (.m (.n (-6)) (.v 3)) (.m (.m (.m (.v 4) (.v 4)) (.v 4)) (.v 4))) (.m (.m (.v 5) (.v 5)) (.v 5)))) (.m (.m (.m (.n (-4)) (.v 2)) (.v 3)) (.m (.m (.m (.m (.v 4) (.v 4)) (.v 4)) (.v 4)) (.v 4)))) (.m (.m (.m (.n (-4)) (.v 2)) (.m (.m (.v 4) (.v 4)) (.v 4))) (.m (.m (.m (.m (.v 5) (.v 5)) (.v 5)) (.v 5)) (.v 5)))) (.m (.m (.m (.n (-4)) (.v 2)) (.m (.m (.m (.v 4) (.v 4)) (.v 4)) (.v 4))) (.m (.v 1) (.v 1)))) (.m (.m (.m (.n (-4)) (.v 2)) (.m (.m (.m (.m (.v 4) (.v 4)) (.v 4)) (.v 4)) (.v 4))) (.m (.m (.v 5) (.v 5)) (.v 5)))) (.m (.m (.m (.n (-3)) (.v 2)) (.m (.m (.m (.m (.m (.v 4) (.v 4)) (.v 4)) (.v 4)) (.v 4)) (.v 4))) (.m (.v 5) (.v 5)))) (.m (.m (.m (.n (-3)) (.v 1)) (.m (.m (.m (.m (.m (.v 4) (.v 4)) (.v 4)) (.v 4)) (.v 4)) (.v 4))) (.m (.v 5) (.v 5)))) (.m (.m (.m (.n (-3)) (.m (.m (.m (.v 4) (.v 4)) (.v 4)) (.v 4))) (.m (.v 5) (.v 5))) (.m (.v 1) (.v 1)))) (.m (.m (.m (.n (-2)) (.v 4)) (.m (.m (.m (.m (.v 5) (.v 5)) (.v 5)) (.v 5)) (.v 5))) (.m (.v 2) (.v 2)))) (.m (.m (.m (.n (-2)) (.v 5)) (.m (.m (.v 4) (.v 4)) (.v 4))) (.m (.m (.v 1) (.v 1)) (.v 1)))) (.m (.m (.m (.n (-2)) (.v 0)) (.m (.m (.v 4) (.v 4)) (.v 4))) (.m (.m (.m (.m (.v 5) (.v 5)) (.v 5)) (.v 5)) (.v 5)))) (.m (.m (.m (.n (-2)) (.v 0)) (.m (.m (.m (.v 4) (.v 4)) (.v 4)) (.v 4))) (.m (.m (.m (.v 5) (.v 5)) (.v 5)) (.v 5)))) (.m (.m (.m (.n (-2)) (.v 0)) (.m (.m (.m (.v 4) (.v 4)) (.v 4)) (.v 4))) (.m (.v 2) (.v 2)))) (.m (.m (.m (.n (-2)) (.v 0)) (.m (.m (.m (.v 4) (.v 4)) (.v 4)) (.v 4))) (.m (.v 1) (.v 1)))) (.m (.m (.m (.n (-2)) (.v 1)) (.m (.m (.m (.m (.v 4) (.v 4)) (.v 4)) (.v 4)) (.v 4))) (.m (.m (.v 5) (.v 5)) (.v 5)))) (.m (.m (.m (.n (-2)) (.m (.v 4) (.v 4))) (.m (.v 5) (.v 5))) (.m (.m (.v 1) (.v 1)) (.v 1)))) (.m (.m (.m (.n 2) (.v 5)) (.v 3)) (.m (.m (.m (.m (.m (.v 4) (.v 4)) (.v 4)) (.v 4)) (.v 4)) (.v 4)))) (.m (.m (.m (.n 2) (.v 3)) (.m (.v 4) (.v 4))) (.m (.m (.m (.m (.v 5) (.v 5)) (.v 5)) (.v 5)) (.v 5)))) (.m (.m (.m (.n 2) (.m (.m (.v 4) (.v 4)) (.v 4))) (.m (.m (.v 5) (.v 5)) (.v 5))) (.m (.v 1) (.v 1)))) (.m (.m (.m (.n 3) (.v 1)) (.m (.m (.m (.v 4) (.v 4)) (.v 4)) (.v 4))) (.m (.m (.m (.v 5) (.v 5)) (.v 5)) (.v 5)))) (.m (.m (.m (.n 3) (.m (.v 4) (.v 4))) (.m (.m (.m (.v 5) (.v 5)) (.v 5)) (.v 5))) (.m (.v 2) (.v 2)))) (.m (.m (.m (.n 3) (.m (.v 4) (.v 4))) (.m (.m (.m (.v 5) (.v 5)) (.v 5)) (.v 5))) (.m (.v 1) (.v 1)))) (.m (.m (.m (.n 3) (.m (.v 4) (.v 4))) (.m (.v 2) (.v 2))) (.m (.v 1) (.v 1)))) (.m (.m (.m (.n 4) (.v 4)) (.m (.m (.v 5) (.v 5)) (.v 5))) (.m (.m (.v 2) (.v 2)) (.v 2)))) (.m (.m (.m (.n 4) (.v 1)) (.v 3)) (.m (.m (.m (.m (.v 4) (.v 4)) (.v 4)) (.v 4)) (.v 4)))) (.m (.m (.m (.n 11) (.m (.m (.m (.v 4) (.v 4)) (.v 4)) (.v 4))) (.m (.v 5) (.v 5))) (.m (.v 2) (.v 2)))) (.m (.m (.m (.n 20) (.m (.m (.v 4) (.v 4)) (.v 4))) (.m (.m (.v 5) (.v 5)) (.v 5))) (.m (.v 2) (.v 2)))) (.m (.m (.m (.n 21) (.v 1)) (.m (.v 4) (.v 4))) (.m (.m (.v 2) (.v 2)) (.v 2)))) (.m (.m (.m (.m (.n (-18)) (.v 5)) (.v 1)) (.m (.m (.v 4) (.v 4)) (.v 4))) (.m (.v 2) (.v 2)))) (.m (.m (.m (.m (.n (-12)) (.v 4)) (.v 5)) (.v 1)) (.m (.m (.v 2) (.v 2)) (.v 2)))) (.m (.m (.m (.m (.n (-12)) (.v 2)) (.v 1)) (.v 3)) (.m (.m (.v 4) (.v 4)) (.v 4)))) (.m (.m (.m (.m (.n (-10)) (.v 4)) (.v 0)) (.m (.m (.v 5) (.v 5)) (.v 5))) (.m (.v 2) (.v 2)))) (.m (.m (.m (.m (.n (-8)) (.v 4)) (.v 2)) (.m (.m (.v 5) (.v 5)) (.v 5))) (.m (.v 1) (.v 1)))) (.m (.m (.m (.m (.n (-8)) (.v 2)) (.v 3)) (.m (.v 4) (.v 4))) (.m (.m (.v 5) (.v 5)) (.v 5)))) (.m (.m (.m (.m (.n (-6)) (.v 0)) (.v 1)) (.m (.v 4) (.v 4))) (.m (.m (.m (.v 5) (.v 5)) (.v 5)) (.v 5)))) (.m (.m (.m (.m (.n (-6)) (.v 0)) (.m (.v 4) (.v 4))) (.m (.v 5) (.v 5))) (.m (.v 2) (.v 2)))) (.m (.m (.m (.m (.n (-4)) (.v 5)) (.v 0)) (.v 3)) (.m (.m (.m (.v 4) (.v 4)) (.v 4)) (.v 4)))) (.m (.m (.m (.m (.n (-4)) (.v 0)) (.v 3)) (.m (.m (.v 4) (.v 4)) (.v 4))) (.m (.v 5) (.v 5)))) (.m (.m (.m (.m (.n (-4)) (.v 1)) (.v 3)) (.m (.v 4) (.v 4))) (.m (.m (.v 5) (.v 5)) (.v 5)))) (.m (.m (.m (.m (.n (-3)) (.v 2)) (.v 1)) (.m (.v 4) (.v 4))) (.m (.m (.m (.v 5) (.v 5)) (.v 5)) (.v 5)))) (.m (.m (.m (.m (.n (-3)) (.v 1)) (.m (.v 4) (.v 4))) (.m (.v 5) (.v 5))) (.m (.v 2) (.v 2)))) (.m (.m (.m (.m (.n (-2)) (.v 4)) (.v 0)) (.v 1)) (.m (.m (.m (.m (.v 5) (.v 5)) (.v 5)) (.v 5)) (.v 5)))) (.m (.m (.m (.m (.n (-2)) (.v 0)) (.v 2)) (.v 1)) (.m (.m (.m (.v 4) (.v 4)) (.v 4)) (.v 4)))) (.m (.m (.m (.m (.n 2) (.v 4)) (.v 0)) (.v 2)) (.m (.m (.m (.m (.v 5) (.v 5)) (.v 5)) (.v 5)) (.v 5)))) (.m (.m (.m (.m (.n 2) (.v 4)) (.v 0)) (.m (.m (.v 5) (.v 5)) (.v 5))) (.m (.v 1) (.v 1)))) (.m (.m (.m (.m (.n 2) (.v 4)) (.v 2)) (.v 1)) (.m (.m (.m (.m (.v 5) (.v 5)) (.v 5)) (.v 5)) (.v 5)))) (.m (.m (.m (.m (.n 2) (.v 0)) (.v 1)) (.m (.m (.m (.v 4) (.v 4)) (.v 4)) (.v 4))) (.m (.v 5) (.v 5)))) (.m (.m (.m (.m (.n 2) (.v 2)) (.v 1)) (.m (.m (.v 4) (.v 4)) (.v 4))) (.m (.m (.v 5) (.v 5)) (.v 5)))) (.m (.m (.m (.m (.n 4) (.v 4)) (.v 1)) (.m (.m (.v 5) (.v 5)) (.v 5))) (.m (.v 2) (.v 2)))) (.m (.m (.m (.m (.n 4) (.v 5)) (.v 2)) (.v 3)) (.m (.m (.m (.v 4) (.v 4)) (.v 4)) (.v 4)))) (.m (.m (.m (.m (.n 4) (.v 0)) (.v 2)) (.m (.m (.m (.v 4) (.v 4)) (.v 4)) (.v 4))) (.m (.v 5) (.v 5)))) (.m (.m (.m (.m (.n 4) (.v 2)) (.v 3)) (.m (.m (.v 4) (.v 4)) (.v 4))) (.m (.v 5) (.v 5)))) (.m (.m (.m (.m (.n 6) (.v 4)) (.v 5)) (.v 2)) (.m (.m (.v 1) (.v 1)) (.v 1)))) (.m (.m (.m (.m (.n 6) (.v 4)) (.v 5)) (.m (.v 2) (.v 2))) (.m (.v 1) (.v 1)))) (.m (.m (.m (.m (.n 6) (.v 5)) (.v 3)) (.m (.v 4) (.v 4))) (.m (.v 2) (.v 2)))) (.m (.m (.m (.m (.n 6) (.v 0)) (.v 2)) (.m (.v 4) (.v 4))) (.m (.m (.m (.v 5) (.v 5)) (.v 5)) (.v 5)))) (.m (.m (.m (.m (.n 6) (.v 0)) (.v 2)) (.m (.v 4) (.v 4))) (.m (.v 1) (.v 1)))) (.m (.m (.m (.m (.n 6) (.v 0)) (.v 2)) (.m (.m (.v 4) (.v 4)) (.v 4))) (.m (.m (.v 5) (.v 5)) (.v 5)))) (.m (.m (.m (.m (.n 6) (.v 0)) (.v 1)) (.m (.v 4) (.v 4))) (.m (.v 2) (.v 2)))) (.m (.m (.m (.m (.n 6) (.v 0)) (.m (.v 4) (.v 4))) (.m (.v 5) (.v 5))) (.m (.v 1) (.v 1)))) (.m (.m (.m (.m (.n 7) (.v 2)) (.v 1)) (.m (.m (.m (.v 4) (.v 4)) (.v 4)) (.v 4))) (.m (.v 5) (.v 5)))) (.m (.m (.m (.m (.n 12) (.v 4)) (.v 5)) (.v 0)) (.m (.m (.v 2) (.v 2)) (.v 2)))) (.m (.m (.m (.m (.n 12) (.v 5)) (.v 1)) (.v 3)) (.m (.m (.m (.v 4) (.v 4)) (.v 4)) (.v 4)))) (.m (.m (.m (.m (.n 12) (.v 0)) (.v 2)) (.v 3)) (.m (.m (.v 4) (.v 4)) (.v 4)))) (.m (.m (.m (.m (.m (.n (-6)) (.v 4)) (.v 5)) (.v 0)) (.v 2)) (.m (.v 1) (.v 1)))) (.m (.m (.m (.m (.m (.n (-6)) (.v 4)) (.v 5)) (.v 0)) (.v 1)) (.m (.v 2) (.v 2)))) (.m (.m (.m (.m (.m (.n 8) (.v 4)) (.v 0)) (.v 2)) (.v 1)) (.m (.m (.v 5) (.v 5)) (.v 5)))) (.m (.m (.m (.m (.m (.n 12) (.v 5)) (.v 2)) (.v 1)) (.v 3)) (.m (.v 4) (.v 4))))
def Wxtt : Ex := (.s (.s (.m (.m (.m Nt Nt) Ft) Ft) (.m (.m (.m Mt Mt) Dt) Dt)) (.m (.m (.m (.m (.s (.s (.a X4 (.v 1)) (.v 0)) X5) Dt) Dt) Ft) Ft))
theorem id_xtt : Wxtt.norm = (Ex.a (.m Pxtt C1) (.m Qxtt C2)).norm := by decide +kernel
end Go.Proofs.YtgdimcnokagddaaDoor.Ec

/-
  Own text. Sums of points on y y = x x x + b: the identities by which they hang on no brackets, chords (c) and tangents (t). Speaks of no program.
-/
namespace Go.Proofs.YtgdimcnokagddaaDoor.Ec
open Go.Proofs.YtgdimcnokagddaaDoor.Ring
set_option maxRecDepth 100000
def Zcc : Ex := (.s (.m Nc Nc) (.m (.m (.a X4 (.v 1)) Dc) Dc))
def Pycc : Ex := (.a (.a (.a (.a (.a (.a (.a (.a (.a (.a (.a (.a (.a (.a (.a (.a (.a (.a (.a (.a (.a (.a (.a (.a (.a (.a (.a (.a (.a (.a (.a (.a (.a (.a (.a (.a (.a (.a (.a (.a (.a (.a (.a (.a (.a (.a (.a (.a (.a (.a (.a (.a (.a (.a (.a (.a (.a (.a (.a (.a (.a (.m (.v 2) (.m (.m (.m (.m (.v 4) (.v 4)) (.v 4)) (.v 4)) (.v 4))) (.m (.m (.n (-4)) (.v 4)) (.m (.m (.v 1) (.v 1)) (.v 1)))) (.m (.m (.n (-4)) (.m (.m (.v 4) (.v 4)) (.v 4))) (.m (.v 0) (.v 0)))) (.m (.m (.n (-2)) (.v 4)) (.m (.m (.v 2) (.v 2)) (.v 2)))) (.m (.m (.n (-2)) (.v 3)) (.m (.v 0) (.v 0)))) (.m (.m (.n (-2)) (.m (.m (.v 4) (.v 4)) (.v 4))) (.m (.v 2) (.v 2)))) (.m (.m (.n (-2)) (.m (.m (.m (.m (.v 4) (.v 4)) (.v 4)) (.v 4)) (.v 4))) (.m (.v 5) (.v 5)))) (.m (.m (.n (-2)) (.m (.m (.v 5) (.v 5)) (.v 5))) (.m (.v 2) (.v 2)))) (.m (.m (.n 2) (.v 4)) (.m (.m (.v 0) (.v 0)) (.v 0)))) (.m (.m (.n 2) (.v 0)) (.m (.m (.m (.m (.v 4) (.v 4)) (.v 4)) (.v 4)) (.v 4)))) (.m (.m (.n 3) (.v 1)) (.m (.m (.m (.m (.v 4) (.v 4)) (.v 4)) (.v 4)) (.v 4)))) (.m (.m (.n 4) (.v 4)) (.m (.v 3) (.v 3)))) (.m (.m (.n 4) (.v 3)) (.m (.m (.m (.v 4) (.v 4)) (.v 4)) (.v 4)))) (.m (.m (.v 0) (.v 1)) (.m (.m (.v 5) (.v 5)) (.v 5)))) (.m (.m (.v 2) (.m (.v 4) (.v 4))) (.m (.m (.v 5) (.v 5)) (.v 5)))) (.m (.m (.m (.n (-1)) (.v 0)) (.v 2)) (.m (.m (.v 5) (.v 5)) (.v 5)))) (.m (.m (.m (.n (-1)) (.v 1)) (.m (.v 4) (.v 4))) (.m (.m (.v 5) (.v 5)) (.v 5)))) (.m (.m (.m (.n (-9)) (.v 0)) (.v 2)) (.m (.m (.v 4) (.v 4)) (.v 4)))) (.m (.m (.m (.n (-8)) (.v 2)) (.v 1)) (.m (.m (.v 4) (.v 4)) (.v 4)))) (.m (.m (.m (.n (-7)) (.v 0)) (.v 1)) (.m (.m (.v 4) (.v 4)) (.v 4)))) (.m (.m (.m (.n (-6)) (.v 4)) (.v 2)) (.m (.v 1) (.v 1)))) (.m (.m (.m (.n (-6)) (.v 2)) (.v 3)) (.m (.v 4) (.v 4)))) (.m (.m (.m (.n (-4)) (.v 4)) (.v 3)) (.m (.m (.v 5) (.v 5)) (.v 5)))) (.m (.m (.m (.n (-4)) (.v 5)) (.v 0)) (.m (.v 1) (.v 1)))) (.m (.m (.m (.n (-4)) (.v 0)) (.v 2)) (.v 3))) (.m (.m (.m (.n (-4)) (.v 0)) (.v 1)) (.v 3))) (.m (.m (.m (.n (-3)) (.v 5)) (.v 2)) (.m (.m (.m (.v 4) (.v 4)) (.v 4)) (.v 4)))) (.m (.m (.m (.n (-2)) (.v 4)) (.v 1)) (.m (.m (.m (.v 5) (.v 5)) (.v 5)) (.v 5)))) (.m (.m (.m (.n (-2)) (.v 4)) (.v 1)) (.m (.v 2) (.v 2)))) (.m (.m (.m (.n (-2)) (.v 4)) (.m (.v 5) (.v 5))) (.m (.v 0) (.v 0)))) (.m (.m (.m (.n (-2)) (.v 4)) (.m (.v 5) (.v 5))) (.m (.v 2) (.v 2)))) (.m (.m (.m (.n (-2)) (.v 5)) (.v 2)) (.m (.v 1) (.v 1)))) (.m (.m (.m (.n (-2)) (.v 5)) (.v 1)) (.m (.v 0) (.v 0)))) (.m (.m (.m (.n (-2)) (.v 0)) (.v 3)) (.m (.v 4) (.v 4)))) (.m (.m (.m (.n (-2)) (.v 2)) (.v 1)) (.v 3))) (.m (.m (.m (.n (-2)) (.v 3)) (.m (.v 4) (.v 4))) (.m (.v 5) (.v 5)))) (.m (.m (.m (.n 2) (.v 4)) (.v 2)) (.m (.m (.m (.v 5) (.v 5)) (.v 5)) (.v 5)))) (.m (.m (.m (.n 2) (.v 5)) (.v 2)) (.m (.v 0) (.v 0)))) (.m (.m (.m (.n 2) (.v 5)) (.v 1)) (.m (.v 2) (.v 2)))) (.m (.m (.m (.n 2) (.v 5)) (.m (.v 4) (.v 4))) (.m (.v 1) (.v 1)))) (.m (.m (.m (.n 2) (.v 0)) (.v 3)) (.m (.v 5) (.v 5)))) (.m (.m (.m (.n 2) (.v 2)) (.v 1)) (.m (.m (.v 5) (.v 5)) (.v 5)))) (.m (.m (.m (.n 2) (.v 1)) (.v 3)) (.m (.v 4) (.v 4)))) (.m (.m (.m (.n 3) (.v 5)) (.v 1)) (.m (.m (.m (.v 4) (.v 4)) (.v 4)) (.v 4)))) (.m (.m (.m (.n 3) (.v 1)) (.m (.m (.v 4) (.v 4)) (.v 4))) (.m (.v 5) (.v 5)))) (.m (.m (.m (.n 4) (.v 4)) (.v 1)) (.m (.v 0) (.v 0)))) (.m (.m (.m (.n 4) (.v 5)) (.v 0)) (.m (.v 2) (.v 2)))) (.m (.m (.m (.n 4) (.v 5)) (.m (.v 4) (.v 4))) (.m (.v 2) (.v 2)))) (.m (.m (.m (.n 4) (.v 0)) (.m (.m (.v 4) (.v 4)) (.v 4))) (.m (.v 5) (.v 5)))) (.m (.m (.m (.n 4) (.v 2)) (.v 3)) (.m (.v 5) (.v 5)))) (.m (.m (.m (.n 5) (.v 2)) (.m (.m (.v 4) (.v 4)) (.v 4))) (.m (.v 5) (.v 5)))) (.m (.m (.m (.n 6) (.v 4)) (.m (.v 5) (.v 5))) (.m (.v 1) (.v 1)))) (.m (.m (.m (.n 8) (.v 4)) (.v 0)) (.m (.v 2) (.v 2)))) (.m (.m (.m (.n 8) (.v 4)) (.v 2)) (.m (.v 0) (.v 0)))) (.m (.m (.m (.v 5) (.v 0)) (.v 2)) (.m (.v 4) (.v 4)))) (.m (.m (.m (.m (.n (-1)) (.v 5)) (.v 0)) (.v 1)) (.m (.v 4) (.v 4)))) (.m (.m (.m (.m (.n (-6)) (.v 4)) (.v 2)) (.v 1)) (.m (.v 5) (.v 5)))) (.m (.m (.m (.m (.n (-6)) (.v 5)) (.v 2)) (.v 1)) (.m (.v 4) (.v 4)))) (.m (.m (.m (.m (.n (-5)) (.v 4)) (.v 0)) (.v 2)) (.m (.v 5) (.v 5)))) (.m (.m (.m (.m (.n (-3)) (.v 4)) (.v 0)) (.v 1)) (.m (.v 5) (.v 5)))) (.m (.m (.m (.m (.n 10) (.v 4)) (.v 0)) (.v 2)) (.v 1))) (.m (.m (.m (.m (.n 12) (.v 4)) (.v 5)) (.v 1)) (.v 3)))
def Qycc : Ex := (.a (.a (.a (.a (.a (.a (.a (.a (.a (.a (.a (.a (.a (.a (.a (.a (.a (.a (.a (.a (.a (.a (.a (.a (.a (.a (.a (.a (.a (.a (.a (.a (.a (.a (.a (.a (.a (.a (.a (.a (.a (.a (.a (.a (.a (.a (.a (.a (.a (.a (.a (.a (.a (.m (.m (.n (-4)) (.v 5)) (.m (.v 3) (.v 3))) (.m (.m (.n (-3)) (.v 2)) (.m (.m (.m (.m (.v 4) (.v 4)) (.v 4)) (.v 4)) (.v 4)))) (.m (.m (.n (-3)) (.v 1)) (.m (.m (.m (.m (.v 4) (.v 4)) (.v 4)) (.v 4)) (.v 4)))) (.m (.m (.n (-2)) (.m (.m (.v 5) (.v 5)) (.v 5))) (.m (.v 1) (.v 1)))) (.m (.m (.n 2) (.v 4)) (.m (.m (.v 2) (.v 2)) (.v 2)))) (.m (.m (.n 2) (.v 5)) (.m (.m (.v 1) (.v 1)) (.v 1)))) (.m (.m (.n 2) (.v 3)) (.m (.v 1) (.v 1)))) (.m (.m (.n 2) (.m (.m (.v 4) (.v 4)) (.v 4))) (.m (.v 1) (.v 1)))) (.m (.m (.n 2) (.m (.m (.m (.m (.v 4) (.v 4)) (.v 4)) (.v 4)) (.v 4))) (.m (.v 5) (.v 5)))) (.m (.m (.n 8) (.m (.m (.v 4) (.v 4)) (.v 4))) (.m (.v 2) (.v 2)))) (.m (.m (.v 0) (.v 2)) (.m (.m (.v 5) (.v 5)) (.v 5)))) (.m (.m (.v 1) (.m (.v 4) (.v 4))) (.m (.m (.v 5) (.v 5)) (.v 5)))) (.m (.m (.m (.n (-1)) (.v 0)) (.v 1)) (.m (.m (.v 5) (.v 5)) (.v 5)))) (.m (.m (.m (.n (-1)) (.v 2)) (.m (.v 4) (.v 4))) (.m (.m (.v 5) (.v 5)) (.v 5)))) (.m (.m (.m (.n (-10)) (.v 1)) (.v 3)) (.m (.v 4) (.v 4)))) (.m (.m (.m (.n (-8)) (.v 2)) (.v 3)) (.m (.v 4) (.v 4)))) (.m (.m (.m (.n (-6)) (.v 1)) (.v 3)) (.m (.v 5) (.v 5)))) (.m (.m (.m (.n (-5)) (.v 2)) (.m (.m (.v 4) (.v 4)) (.v 4))) (.m (.v 5) (.v 5)))) (.m (.m (.m (.n (-5)) (.v 1)) (.m (.m (.v 4) (.v 4)) (.v 4))) (.m (.v 5) (.v 5)))) (.m (.m (.m (.n (-4)) (.v 4)) (.v 2)) (.m (.v 1) (.v 1)))) (.m (.m (.m (.n (-4)) (.v 4)) (.v 1)) (.m (.v 2) (.v 2)))) (.m (.m (.m (.n (-4)) (.v 4)) (.m (.v 5) (.v 5))) (.m (.v 2) (.v 2)))) (.m (.m (.m (.n (-4)) (.v 5)) (.v 1)) (.m (.v 2) (.v 2)))) (.m (.m (.m (.n (-4)) (.v 5)) (.v 3)) (.m (.m (.v 4) (.v 4)) (.v 4)))) (.m (.m (.m (.n (-3)) (.v 5)) (.v 1)) (.m (.m (.m (.v 4) (.v 4)) (.v 4)) (.v 4)))) (.m (.m (.m (.n (-2)) (.v 4)) (.v 0)) (.m (.v 2) (.v 2)))) (.m (.m (.m (.n (-2)) (.v 4)) (.v 0)) (.m (.v 1) (.v 1)))) (.m (.m (.m (.n (-2)) (.v 5)) (.v 0)) (.m (.v 2) (.v 2)))) (.m (.m (.m (.n (-2)) (.v 5)) (.m (.v 4) (.v 4))) (.m (.v 2) (.v 2)))) (.m (.m (.m (.n (-2)) (.v 5)) (.m (.v 4) (.v 4))) (.m (.v 1) (.v 1)))) (.m (.m (.m (.n (-2)) (.v 0)) (.v 3)) (.m (.v 5) (.v 5)))) (.m (.m (.m (.n (-2)) (.v 0)) (.m (.m (.v 4) (.v 4)) (.v 4))) (.m (.v 5) (.v 5)))) (.m (.m (.m (.n 2) (.v 5)) (.v 2)) (.m (.v 1) (.v 1)))) (.m (.m (.m (.n 2) (.v 0)) (.v 2)) (.v 3))) (.m (.m (.m (.n 2) (.v 2)) (.v 1)) (.m (.m (.v 5) (.v 5)) (.v 5)))) (.m (.m (.m (.n 2) (.v 2)) (.v 3)) (.m (.v 5) (.v 5)))) (.m (.m (.m (.n 3) (.v 5)) (.v 2)) (.m (.m (.m (.v 4) (.v 4)) (.v 4)) (.v 4)))) (.m (.m (.m (.n 3) (.v 0)) (.v 2)) (.m (.m (.v 4) (.v 4)) (.v 4)))) (.m (.m (.m (.n 3) (.v 0)) (.v 1)) (.m (.m (.v 4) (.v 4)) (.v 4)))) (.m (.m (.m (.n 4) (.v 5)) (.v 0)) (.m (.v 1) (.v 1)))) (.m (.m (.m (.n 4) (.v 0)) (.v 1)) (.v 3))) (.m (.m (.m (.n 4) (.v 2)) (.v 1)) (.v 3))) (.m (.m (.m (.n 6) (.v 3)) (.m (.v 4) (.v 4))) (.m (.v 5) (.v 5)))) (.m (.m (.m (.n 14) (.v 2)) (.v 1)) (.m (.m (.v 4) (.v 4)) (.v 4)))) (.m (.m (.m (.v 4) (.v 0)) (.v 2)) (.m (.v 5) (.v 5)))) (.m (.m (.m (.m (.n (-8)) (.v 4)) (.v 0)) (.v 2)) (.v 1))) (.m (.m (.m (.m (.n (-3)) (.v 5)) (.v 0)) (.v 2)) (.m (.v 4) (.v 4)))) (.m (.m (.m (.m (.n (-2)) (.v 5)) (.v 0)) (.v 2)) (.v 1))) (.m (.m (.m (.m (.n 3) (.v 5)) (.v 0)) (.v 1)) (.m (.v 4) (.v 4)))) (.m (.m (.m (.m (.n 4) (.v 4)) (.v 5)) (.v 0)) (.v 3))) (.m (.m (.m (.m (.n 4) (.v 5)) (.v 2)) (.v 1)) (.m (.v 4) (.v 4)))) (.m (.m (.m (.m (.n 5) (.v 4)) (.v 0)) (.v 1)) (.m (.v 5) (.v 5)))) (.m (.m (.m (.m (.n 8) (.v 4)) (.v 5)) (.v 2)) (.v 3))) (.m (.m (.m (.m (.n 10) (.v 4)) (.v 2)) (.v 1)) (.m (.v 5) (.v 5))))
def Wycc : Ex := (.s (.s (.m (.m Nc (.s (.m (.m (.v 1) Dc) Dc) Zcc)) Fc) (.m (.m (.m (.m Y3 Dc) Dc) Dc) Fc)) (.s (.m (.m Mc (.s (.m (.m (.v 0) Dc) Dc) Zcc)) Dc) (.m (.m (.m (.m Y1 Dc) Dc) Dc) Fc)))
theorem id_ycc : Wycc.norm = (Ex.a (.m Pycc C1) (.m Qycc C2)).norm := by decide +kernel
end Go.Proofs.YtgdimcnokagddaaDoor.Ec

/-
  Own text. Sums of points on y y = x x x + b: the identities by which they hang on no brackets, chords (c) and tangents (t). Speaks of no program.
-/
namespace Go.Proofs.YtgdimcnokagddaaDoor.Ec
open Go.Proofs.YtgdimcnokagddaaDoor.Ring
set_option maxRecDepth 100000
def Zct : Ex := (.s (.m Nc Nc) (.m (.m (.a X4 (.v 1)) Dc) Dc))
def Pyct : Ex := (.a (.a (.a (.a (.a (.a (.a (.a (.a (.a (.a (.a (.a (.a (.a (.a (.a (.a (.a (.a (.a (.a (.a (.a (.a (.a (.a (.a (.a (.a (.a (.a (.a (.a (.a (.a (.a (.a (.a (.a (.a (.a (.a (.a (.a (.a (.a (.a (.a (.a (.a (.a (.a (.a (.a (.a (.a (.a (.a (.a (.a (.a (.a (.a (.a (.a (.a (.a (.a (.a (.a (.a (.a (.a (.a (.a (.a (.a (.a (.a (.a (.a (.a (.a (.a (.a (.a (.a (.a (.a (.a (.a (.a (.a (.a (.a (.a (.m (.m (.m (.v 1) (.v 1)) (.v 1)) (.v 1)) (.m (.n (-1)) (.m (.m (.m (.v 2) (.v 2)) (.v 2)) (.v 2)))) (.m (.v 0) (.m (.m (.v 2) (.v 2)) (.v 2)))) (.m (.v 0) (.m (.m (.v 1) (.v 1)) (.v 1)))) (.m (.v 2) (.m (.m (.v 1) (.v 1)) (.v 1)))) (.m (.v 1) (.m (.m (.v 0) (.v 0)) (.v 0)))) (.m (.m (.m (.m (.v 5) (.v 5)) (.v 5)) (.v 5)) (.m (.v 2) (.v 2)))) (.m (.m (.n (-1)) (.v 2)) (.m (.m (.v 0) (.v 0)) (.v 0)))) (.m (.m (.n (-1)) (.m (.m (.m (.v 5) (.v 5)) (.v 5)) (.v 5))) (.m (.v 1) (.v 1)))) (.m (.m (.n (-1)) (.m (.v 0) (.v 0))) (.m (.v 2) (.v 2)))) (.m (.m (.n (-1)) (.m (.v 2) (.v 2))) (.m (.v 1) (.v 1)))) (.m (.m (.n (-8)) (.m (.m (.m (.v 4) (.v 4)) (.v 4)) (.v 4))) (.m (.v 2) (.v 2)))) (.m (.m (.n (-4)) (.v 0)) (.m (.v 3) (.v 3)))) (.m (.m (.n (-4)) (.m (.v 5) (.v 5))) (.m (.v 3) (.v 3)))) (.m (.m (.n (-3)) (.m (.v 5) (.v 5))) (.m (.m (.v 2) (.v 2)) (.v 2)))) (.m (.m (.n (-2)) (.v 0)) (.m (.m (.m (.m (.m (.v 4) (.v 4)) (.v 4)) (.v 4)) (.v 4)) (.v 4)))) (.m (.m (.n (-2)) (.m (.v 4) (.v 4))) (.m (.m (.v 0) (.v 0)) (.v 0)))) (.m (.m (.n (-2)) (.m (.m (.m (.v 4) (.v 4)) (.v 4)) (.v 4))) (.m (.v 1) (.v 1)))) (.m (.m (.n 2) (.v 2)) (.m (.m (.m (.m (.m (.v 4) (.v 4)) (.v 4)) (.v 4)) (.v 4)) (.v 4)))) (.m (.m (.n 2) (.m (.v 4) (.v 4))) (.m (.m (.v 1) (.v 1)) (.v 1)))) (.m (.m (.n 2) (.m (.m (.m (.m (.v 4) (.v 4)) (.v 4)) (.v 4)) (.v 4))) (.m (.m (.v 5) (.v 5)) (.v 5)))) (.m (.m (.n 2) (.m (.v 0) (.v 0))) (.m (.v 1) (.v 1)))) (.m (.m (.n 4) (.v 2)) (.m (.v 3) (.v 3)))) (.m (.m (.n 4) (.m (.m (.m (.v 4) (.v 4)) (.v 4)) (.v 4))) (.m (.v 0) (.v 0)))) (.m (.m (.n 6) (.m (.v 4) (.v 4))) (.m (.m (.v 2) (.v 2)) (.v 2)))) (.m (.m (.v 0) (.v 2)) (.m (.m (.m (.v 5) (.v 5)) (.v 5)) (.v 5)))) (.m (.m (.v 2) (.m (.m (.m (.v 4) (.v 4)) (.v 4)) (.v 4))) (.m (.v 5) (.v 5)))) (.m (.m (.v 1) (.m (.v 4) (.v 4))) (.m (.m (.m (.v 5) (.v 5)) (.v 5)) (.v 5)))) (.m (.m (.v 1) (.m (.v 5) (.v 5))) (.m (.v 0) (.v 0)))) (.m (.m (.m (.n (-1)) (.v 0)) (.v 2)) (.m (.v 1) (.v 1)))) (.m (.m (.m (.n (-1)) (.v 0)) (.v 1)) (.m (.m (.m (.v 5) (.v 5)) (.v 5)) (.v 5)))) (.m (.m (.m (.n (-1)) (.v 0)) (.v 1)) (.m (.v 2) (.v 2)))) (.m (.m (.m (.n (-1)) (.v 2)) (.v 1)) (.m (.v 0) (.v 0)))) (.m (.m (.m (.n (-1)) (.v 2)) (.m (.v 4) (.v 4))) (.m (.m (.m (.v 5) (.v 5)) (.v 5)) (.v 5)))) (.m (.m (.m (.n (-1)) (.v 2)) (.m (.v 5) (.v 5))) (.m (.v 0) (.v 0)))) (.m (.m (.m (.n (-1)) (.v 1)) (.m (.m (.m (.v 4) (.v 4)) (.v 4)) (.v 4))) (.m (.v 5) (.v 5)))) (.m (.m (.m (.n (-1)) (.v 1)) (.m (.v 5) (.v 5))) (.m (.v 2) (.v 2)))) (.m (.m (.m (.n (-1)) (.m (.v 4) (.v 4))) (.m (.v 5) (.v 5))) (.m (.v 2) (.v 2)))) (.m (.m (.m (.n (-12)) (.v 4)) (.v 3)) (.m (.v 2) (.v 2)))) (.m (.m (.m (.n (-6)) (.v 0)) (.v 3)) (.m (.m (.v 4) (.v 4)) (.v 4)))) (.m (.m (.m (.n (-5)) (.v 0)) (.m (.v 5) (.v 5))) (.m (.v 2) (.v 2)))) (.m (.m (.m (.n (-5)) (.v 1)) (.m (.m (.v 4) (.v 4)) (.v 4))) (.m (.m (.v 5) (.v 5)) (.v 5)))) (.m (.m (.m (.n (-4)) (.v 0)) (.m (.m (.v 4) (.v 4)) (.v 4))) (.m (.m (.v 5) (.v 5)) (.v 5)))) (.m (.m (.m (.n (-4)) (.v 2)) (.v 1)) (.m (.m (.m (.v 4) (.v 4)) (.v 4)) (.v 4)))) (.m (.m (.m (.n (-4)) (.v 1)) (.v 3)) (.m (.m (.v 5) (.v 5)) (.v 5)))) (.m (.m (.m (.n (-4)) (.v 3)) (.m (.m (.v 4) (.v 4)) (.v 4))) (.m (.v 5) (.v 5)))) (.m (.m (.m (.n (-4)) (.m (.v 4) (.v 4))) (.m (.v 5) (.v 5))) (.m (.v 1) (.v 1)))) (.m (.m (.m (.n (-3)) (.v 5)) (.v 2)) (.m (.m (.m (.m (.v 4) (.v 4)) (.v 4)) (.v 4)) (.v 4)))) (.m (.m (.m (.n (-3)) (.v 5)) (.v 1)) (.m (.m (.m (.m (.v 4) (.v 4)) (.v 4)) (.v 4)) (.v 4)))) (.m (.m (.m (.n (-3)) (.v 2)) (.m (.v 4) (.v 4))) (.m (.v 0) (.v 0)))) (.m (.m (.m (.n (-3)) (.v 2)) (.m (.m (.v 4) (.v 4)) (.v 4))) (.m (.m (.v 5) (.v 5)) (.v 5)))) (.m (.m (.m (.n (-3)) (.v 1)) (.m (.v 4) (.v 4))) (.m (.v 0) (.v 0)))) (.m (.m (.m (.n (-2)) (.v 4)) (.v 2)) (.m (.m (.m (.m (.v 5) (.v 5)) (.v 5)) (.v 5)) (.v 5)))) (.m (.m (.m (.n (-2)) (.v 4)) (.v 3)) (.m (.v 1) (.v 1)))) (.m (.m (.m (.n (-2)) (.v 4)) (.m (.m (.v 5) (.v 5)) (.v 5))) (.m (.v 1) (.v 1)))) (.m (.m (.m (.n (-2)) (.v 0)) (.v 3)) (.m (.m (.v 5) (.v 5)) (.v 5)))) (.m (.m (.m (.n 2) (.v 4)) (.v 1)) (.m (.m (.m (.m (.v 5) (.v 5)) (.v 5)) (.v 5)) (.v 5)))) (.m (.m (.m (.n 2) (.v 4)) (.m (.m (.v 5) (.v 5)) (.v 5))) (.m (.v 0) (.v 0)))) (.m (.m (.m (.n 2) (.v 4)) (.m (.m (.v 5) (.v 5)) (.v 5))) (.m (.v 2) (.v 2)))) (.m (.m (.m (.n 2) (.v 5)) (.m (.m (.v 4) (.v 4)) (.v 4))) (.m (.v 1) (.v 1)))) (.m (.m (.m (.n 2) (.v 0)) (.v 2)) (.m (.m (.m (.v 4) (.v 4)) (.v 4)) (.v 4)))) (.m (.m (.m (.n 2) (.v 0)) (.v 1)) (.m (.m (.m (.v 4) (.v 4)) (.v 4)) (.v 4)))) (.m (.m (.m (.n 2) (.v 0)) (.m (.v 5) (.v 5))) (.m (.v 1) (.v 1)))) (.m (.m (.m (.n 2) (.v 3)) (.m (.v 4) (.v 4))) (.m (.m (.v 5) (.v 5)) (.v 5)))) (.m (.m (.m (.n 3) (.v 0)) (.m (.v 4) (.v 4))) (.m (.v 2) (.v 2)))) (.m (.m (.m (.n 4) (.v 4)) (.v 5)) (.m (.m (.v 2) (.v 2)) (.v 2)))) (.m (.m (.m (.n 4) (.v 4)) (.v 3)) (.m (.m (.m (.v 5) (.v 5)) (.v 5)) (.v 5)))) (.m (.m (.m (.n 4) (.v 5)) (.v 3)) (.m (.v 2) (.v 2)))) (.m (.m (.m (.n 4) (.v 2)) (.m (.v 5) (.v 5))) (.m (.v 1) (.v 1)))) (.m (.m (.m (.n 6) (.v 4)) (.v 3)) (.m (.v 0) (.v 0)))) (.m (.m (.m (.n 6) (.v 5)) (.m (.m (.v 4) (.v 4)) (.v 4))) (.m (.v 2) (.v 2)))) (.m (.m (.m (.n 6) (.v 2)) (.v 3)) (.m (.m (.v 4) (.v 4)) (.v 4)))) (.m (.m (.m (.n 6) (.v 2)) (.m (.v 4) (.v 4))) (.m (.v 1) (.v 1)))) (.m (.m (.m (.n 6) (.v 1)) (.m (.v 4) (.v 4))) (.m (.v 2) (.v 2)))) (.m (.m (.m (.v 5) (.v 0)) (.v 1)) (.m (.m (.v 4) (.v 4)) (.v 4)))) (.m (.m (.m (.m (.n (-14)) (.v 4)) (.v 5)) (.v 0)) (.m (.v 2) (.v 2)))) (.m (.m (.m (.m (.n (-10)) (.v 4)) (.v 5)) (.v 1)) (.m (.v 2) (.v 2)))) (.m (.m (.m (.m (.n (-8)) (.v 4)) (.v 5)) (.v 2)) (.m (.v 0) (.v 0)))) (.m (.m (.m (.m (.n (-6)) (.v 5)) (.v 1)) (.v 3)) (.m (.v 4) (.v 4)))) (.m (.m (.m (.m (.n (-4)) (.v 4)) (.v 2)) (.v 1)) (.v 3))) (.m (.m (.m (.m (.n (-2)) (.v 4)) (.v 2)) (.v 3)) (.m (.v 5) (.v 5)))) (.m (.m (.m (.m (.n (-2)) (.v 4)) (.v 1)) (.v 3)) (.m (.v 5) (.v 5)))) (.m (.m (.m (.m (.n (-2)) (.v 5)) (.v 0)) (.v 1)) (.v 3))) (.m (.m (.m (.m (.n 2) (.v 4)) (.v 5)) (.v 1)) (.m (.v 0) (.v 0)))) (.m (.m (.m (.m (.n 2) (.v 4)) (.v 0)) (.v 1)) (.v 3))) (.m (.m (.m (.m (.n 2) (.v 4)) (.v 2)) (.v 1)) (.m (.m (.v 5) (.v 5)) (.v 5)))) (.m (.m (.m (.m (.n 3) (.v 4)) (.v 0)) (.v 2)) (.m (.m (.v 5) (.v 5)) (.v 5)))) (.m (.m (.m (.m (.n 3) (.v 0)) (.v 2)) (.v 1)) (.m (.v 4) (.v 4)))) (.m (.m (.m (.m (.n 3) (.v 0)) (.v 2)) (.v 1)) (.m (.v 5) (.v 5)))) (.m (.m (.m (.m (.n 4) (.v 4)) (.v 0)) (.v 2)) (.v 3))) (.m (.m (.m (.m (.n 4) (.v 4)) (.v 0)) (.v 3)) (.m (.v 5) (.v 5)))) (.m (.m (.m (.m (.n 5) (.v 4)) (.v 0)) (.v 1)) (.m (.m (.v 5) (.v 5)) (.v 5)))) (.m (.m (.m (.m (.n 5) (.v 2)) (.v 1)) (.m (.v 4) (.v 4))) (.m (.v 5) (.v 5)))) (.m (.m (.m (.m (.n 8) (.v 5)) (.v 0)) (.v 2)) (.v 3))) (.m (.m (.m (.m (.n 8) (.v 5)) (.v 2)) (.v 1)) (.v 3))) (.m (.m (.m (.m (.n 11) (.v 5)) (.v 0)) (.v 2)) (.m (.m (.v 4) (.v 4)) (.v 4)))) (.m (.m (.m (.m (.n 16) (.v 5)) (.v 2)) (.v 1)) (.m (.m (.v 4) (.v 4)) (.v 4)))) (.m (.m (.m (.m (.m (.n (-10)) (.v 4)) (.v 5)) (.v 0)) (.v 2)) (.v 1)))
def Qyct : Ex := (.a (.a (.a (.a (.a (.a (.a (.a (.a (.a (.a (.a (.a (.a (.a (.a (.a (.a (.a (.a (.a (.a (.a (.a (.a (.a (.a (.a (.a (.a (.a (.a (.a (.a (.a (.a (.a (.a (.a (.a (.a (.a (.a (.a (.a (.a (.a (.a (.a (.a (.a (.a (.a (.a (.a (.a (.a (.a (.a (.a (.a (.a (.a (.a (.a (.a (.a (.a (.a (.a (.a (.a (.a (.a (.a (.a (.a (.a (.a (.a (.a (.a (.a (.m (.m (.m (.v 1) (.v 1)) (.v 1)) (.v 1)) (.m (.v 1) (.m (.m (.m (.m (.m (.v 4) (.v 4)) (.v 4)) (.v 4)) (.v 4)) (.v 4)))) (.m (.m (.n (-1)) (.v 2)) (.m (.m (.m (.m (.m (.v 4) (.v 4)) (.v 4)) (.v 4)) (.v 4)) (.v 4)))) (.m (.m (.n (-8)) (.v 2)) (.m (.v 3) (.v 3)))) (.m (.m (.n (-4)) (.v 1)) (.m (.m (.v 2) (.v 2)) (.v 2)))) (.m (.m (.n (-4)) (.v 1)) (.m (.v 3) (.v 3)))) (.m (.m (.n (-4)) (.m (.v 4) (.v 4))) (.m (.m (.v 2) (.v 2)) (.v 2)))) (.m (.m (.n (-3)) (.m (.v 5) (.v 5))) (.m (.m (.v 1) (.v 1)) (.v 1)))) (.m (.m (.n (-2)) (.v 0)) (.m (.m (.v 2) (.v 2)) (.v 2)))) (.m (.m (.n (-2)) (.m (.v 4) (.v 4))) (.m (.m (.v 1) (.v 1)) (.v 1)))) (.m (.m (.n (-2)) (.m (.m (.m (.m (.v 4) (.v 4)) (.v 4)) (.v 4)) (.v 4))) (.m (.m (.v 5) (.v 5)) (.v 5)))) (.m (.m (.n 2) (.v 0)) (.m (.m (.v 1) (.v 1)) (.v 1)))) (.m (.m (.n 2) (.m (.m (.m (.v 5) (.v 5)) (.v 5)) (.v 5))) (.m (.v 1) (.v 1)))) (.m (.m (.n 3) (.v 2)) (.m (.m (.v 1) (.v 1)) (.v 1)))) (.m (.m (.n 4) (.m (.v 5) (.v 5))) (.m (.v 3) (.v 3)))) (.m (.m (.n 8) (.m (.m (.m (.v 4) (.v 4)) (.v 4)) (.v 4))) (.m (.v 2) (.v 2)))) (.m (.m (.v 5) (.v 2)) (.m (.m (.m (.m (.v 4) (.v 4)) (.v 4)) (.v 4)) (.v 4)))) (.m (.m (.v 0) (.v 2)) (.m (.m (.m (.v 4) (.v 4)) (.v 4)) (.v 4)))) (.m (.m (.v 0) (.v 1)) (.m (.m (.m (.v 5) (.v 5)) (.v 5)) (.v 5)))) (.m (.m (.v 2) (.m (.v 4) (.v 4))) (.m (.m (.m (.v 5) (.v 5)) (.v 5)) (.v 5)))) (.m (.m (.m (.n (-1)) (.v 0)) (.v 2)) (.m (.m (.m (.v 5) (.v 5)) (.v 5)) (.v 5)))) (.m (.m (.m (.n (-1)) (.v 0)) (.v 1)) (.m (.m (.m (.v 4) (.v 4)) (.v 4)) (.v 4)))) (.m (.m (.m (.n (-1)) (.v 1)) (.m (.v 4) (.v 4))) (.m (.m (.m (.v 5) (.v 5)) (.v 5)) (.v 5)))) (.m (.m (.m (.n (-12)) (.v 2)) (.v 3)) (.m (.m (.v 4) (.v 4)) (.v 4)))) (.m (.m (.m (.n (-8)) (.v 4)) (.v 5)) (.m (.m (.v 2) (.v 2)) (.v 2)))) (.m (.m (.m (.n (-6)) (.v 5)) (.v 3)) (.m (.v 1) (.v 1)))) (.m (.m (.m (.n (-6)) (.v 5)) (.m (.m (.v 4) (.v 4)) (.v 4))) (.m (.v 2) (.v 2)))) (.m (.m (.m (.n (-6)) (.v 0)) (.m (.v 4) (.v 4))) (.m (.v 2) (.v 2)))) (.m (.m (.m (.n (-6)) (.v 3)) (.m (.v 4) (.v 4))) (.m (.m (.v 5) (.v 5)) (.v 5)))) (.m (.m (.m (.n (-4)) (.v 5)) (.m (.m (.v 4) (.v 4)) (.v 4))) (.m (.v 1) (.v 1)))) (.m (.m (.m (.n (-3)) (.v 0)) (.v 1)) (.m (.v 2) (.v 2)))) (.m (.m (.m (.n (-3)) (.v 0)) (.m (.v 5) (.v 5))) (.m (.v 1) (.v 1)))) (.m (.m (.m (.n (-3)) (.v 2)) (.m (.v 4) (.v 4))) (.m (.v 1) (.v 1)))) (.m (.m (.m (.n (-3)) (.v 2)) (.m (.m (.m (.v 4) (.v 4)) (.v 4)) (.v 4))) (.m (.v 5) (.v 5)))) (.m (.m (.m (.n (-3)) (.v 2)) (.m (.v 5) (.v 5))) (.m (.v 1) (.v 1)))) (.m (.m (.m (.n (-3)) (.v 1)) (.m (.v 4) (.v 4))) (.m (.v 2) (.v 2)))) (.m (.m (.m (.n (-2)) (.v 2)) (.v 1)) (.m (.m (.m (.v 4) (.v 4)) (.v 4)) (.v 4)))) (.m (.m (.m (.n (-2)) (.v 2)) (.v 1)) (.m (.m (.m (.v 5) (.v 5)) (.v 5)) (.v 5)))) (.m (.m (.m (.n (-2)) (.v 2)) (.v 3)) (.m (.m (.v 5) (.v 5)) (.v 5)))) (.m (.m (.m (.n 2) (.v 4)) (.v 3)) (.m (.v 1) (.v 1)))) (.m (.m (.m (.n 2) (.v 0)) (.v 3)) (.m (.m (.v 5) (.v 5)) (.v 5)))) (.m (.m (.m (.n 2) (.v 0)) (.m (.m (.v 4) (.v 4)) (.v 4))) (.m (.m (.v 5) (.v 5)) (.v 5)))) (.m (.m (.m (.n 3) (.v 0)) (.v 2)) (.m (.v 1) (.v 1)))) (.m (.m (.m (.n 3) (.v 0)) (.m (.v 5) (.v 5))) (.m (.v 2) (.v 2)))) (.m (.m (.m (.n 3) (.v 1)) (.m (.m (.m (.v 4) (.v 4)) (.v 4)) (.v 4))) (.m (.v 5) (.v 5)))) (.m (.m (.m (.n 3) (.m (.v 4) (.v 4))) (.m (.v 5) (.v 5))) (.m (.v 2) (.v 2)))) (.m (.m (.m (.n 3) (.m (.v 4) (.v 4))) (.m (.v 5) (.v 5))) (.m (.v 1) (.v 1)))) (.m (.m (.m (.n 4) (.v 4)) (.v 5)) (.m (.v 3) (.v 3)))) (.m (.m (.m (.n 4) (.v 4)) (.m (.m (.v 5) (.v 5)) (.v 5))) (.m (.v 2) (.v 2)))) (.m (.m (.m (.n 4) (.v 5)) (.v 3)) (.m (.m (.m (.v 4) (.v 4)) (.v 4)) (.v 4)))) (.m (.m (.m (.n 4) (.v 5)) (.v 3)) (.m (.v 2) (.v 2)))) (.m (.m (.m (.n 4) (.v 3)) (.m (.m (.v 4) (.v 4)) (.v 4))) (.m (.v 5) (.v 5)))) (.m (.m (.m (.n 5) (.v 5)) (.v 1)) (.m (.m (.m (.m (.v 4) (.v 4)) (.v 4)) (.v 4)) (.v 4)))) (.m (.m (.m (.n 5) (.v 2)) (.m (.m (.v 4) (.v 4)) (.v 4))) (.m (.m (.v 5) (.v 5)) (.v 5)))) (.m (.m (.m (.n 5) (.v 1)) (.m (.m (.v 4) (.v 4)) (.v 4))) (.m (.m (.v 5) (.v 5)) (.v 5)))) (.m (.m (.m (.n 6) (.v 1)) (.v 3)) (.m (.m (.v 5) (.v 5)) (.v 5)))) (.m (.m (.m (.n 6) (.v 1)) (.m (.v 5) (.v 5))) (.m (.v 2) (.v 2)))) (.m (.m (.m (.n 16) (.v 4)) (.v 3)) (.m (.v 2) (.v 2)))) (.m (.m (.m (.m (.n (-1)) (.v 4)) (.v 0)) (.v 2)) (.m (.m (.v 5) (.v 5)) (.v 5)))) (.m (.m (.m (.m (.n (-1)) (.v 5)) (.v 0)) (.v 2)) (.m (.m (.v 4) (.v 4)) (.v 4)))) (.m (.m (.m (.m (.n (-20)) (.v 5)) (.v 2)) (.v 1)) (.m (.m (.v 4) (.v 4)) (.v 4)))) (.m (.m (.m (.m (.n (-10)) (.v 4)) (.v 2)) (.v 1)) (.m (.m (.v 5) (.v 5)) (.v 5)))) (.m (.m (.m (.m (.n (-10)) (.v 4)) (.v 2)) (.v 3)) (.m (.v 5) (.v 5)))) (.m (.m (.m (.m (.n (-10)) (.v 5)) (.v 2)) (.v 1)) (.v 3))) (.m (.m (.m (.m (.n (-6)) (.v 2)) (.v 1)) (.m (.v 4) (.v 4))) (.m (.v 5) (.v 5)))) (.m (.m (.m (.m (.n (-5)) (.v 4)) (.v 0)) (.v 1)) (.m (.m (.v 5) (.v 5)) (.v 5)))) (.m (.m (.m (.m (.n (-5)) (.v 5)) (.v 0)) (.v 1)) (.m (.m (.v 4) (.v 4)) (.v 4)))) (.m (.m (.m (.m (.n (-4)) (.v 4)) (.v 0)) (.v 3)) (.m (.v 5) (.v 5)))) (.m (.m (.m (.m (.n (-4)) (.v 5)) (.v 0)) (.v 2)) (.v 3))) (.m (.m (.m (.m (.n (-4)) (.v 5)) (.v 0)) (.v 3)) (.m (.v 4) (.v 4)))) (.m (.m (.m (.m (.n (-3)) (.v 0)) (.v 1)) (.m (.v 4) (.v 4))) (.m (.v 5) (.v 5)))) (.m (.m (.m (.m (.n (-2)) (.v 5)) (.v 0)) (.v 1)) (.v 3))) (.m (.m (.m (.m (.n 2) (.v 4)) (.v 5)) (.v 0)) (.m (.v 2) (.v 2)))) (.m (.m (.m (.m (.n 2) (.v 4)) (.v 5)) (.v 0)) (.m (.v 1) (.v 1)))) (.m (.m (.m (.m (.n 2) (.v 4)) (.v 0)) (.v 1)) (.v 3))) (.m (.m (.m (.m (.n 2) (.v 4)) (.v 1)) (.v 3)) (.m (.v 5) (.v 5)))) (.m (.m (.m (.m (.n 3) (.v 0)) (.v 2)) (.m (.v 4) (.v 4))) (.m (.v 5) (.v 5)))) (.m (.m (.m (.m (.n 4) (.v 5)) (.v 2)) (.v 3)) (.m (.v 4) (.v 4)))) (.m (.m (.m (.m (.n 6) (.v 5)) (.v 1)) (.v 3)) (.m (.v 4) (.v 4)))) (.m (.m (.m (.m (.n 10) (.v 4)) (.v 5)) (.v 2)) (.m (.v 1) (.v 1)))) (.m (.m (.m (.m (.n 10) (.v 4)) (.v 0)) (.v 2)) (.v 3))) (.m (.m (.m (.m (.n 12) (.v 4)) (.v 2)) (.v 1)) (.v 3))) (.m (.m (.m (.m (.n 16) (.v 4)) (.v 5)) (.v 1)) (.m (.v 2) (.v 2)))) (.m (.m (.m (.m (.m (.n 14) (.v 4)) (.v 5)) (.v 0)) (.v 2)) (.v 1)))
def Wyct : Ex := (.s (.s (.m (.m Nc (.s (.m (.m (.v 1) Dc) Dc) Zct)) Ft) (.m (.m (.m (.m Y3 Dc) Dc) Dc) Ft)) (.s (.m (.m Mt (.s (.m (.m (.v 0) Dc) Dc) Zct)) Dc) (.m (.m (.m (.m Y1 Dc) Dc) Dc) Ft)))
theorem id_yct : Wyct.norm = (Ex.a (.m Pyct C1) (.m Qyct C2)).norm := by decide +kernel
end Go.Proofs.YtgdimcnokagddaaDoor.Ec

/-
  Own text. Sums of points on y y = x x x + b: the identities by which they hang on no brackets, chords (c) and tangents (t). Speaks of no program.
-/
namespace Go.Proofs.YtgdimcnokagddaaDoor.Ec
open Go.Proofs.YtgdimcnokagddaaDoor.Ring
set_option maxRecDepth 100000
def Ztc : Ex := (.s (.m Nt Nt) (.m (.m (.a X4 (.v 1)) Dt) Dt))
def Pytc : Ex := (.a (.a (.a (.a (.a (.a (.a (.a (.a (.a (.a (.a (.a (.a (.a (.a (.a (.a (.a (.a (.a (.a (.a (.a (.a (.a (.a (.a (.a (.a (.a (.a (.a (.a (.a (.a (.a (.a (.a (.a (.a (.a (.a (.a (.a (.a (.a (.a (.a (.a (.a (.a (.a (.a (.a (.a (.a (.a (.a (.a (.a (.a (.a (.a (.a (.a (.a (.a (.a (.a (.a (.a (.a (.a (.a (.a (.a (.a (.a (.a (.a (.a (.a (.a (.a (.a (.a (.a (.a (.a (.a (.a (.a (.a (.a (.a (.a (.a (.a (.a (.a (.a (.a (.a (.a (.a (.a (.a (.a (.a (.a (.a (.a (.a (.a (.a (.a (.a (.a (.a (.a (.a (.a (.a (.a (.a (.a (.a (.a (.a (.a (.a (.a (.a (.a (.a (.a (.a (.a (.a (.a (.a (.a (.a (.a (.a (.a (.a (.a (.a (.a (.a (.a (.a (.a (.a (.a (.a (.a (.a (.a (.a (.a (.a (.a (.a (.a (.a (.a (.a (.a (.a (.a (.a (.a (.a (.a (.a (.a (.a (.a (.m (.n (-1)) (.m (.m (.m (.m (.v 0) (.v 0)) (.v 0)) (.v 0)) (.v 0))) (.m (.n (-3)) (.m (.m (.m (.m (.v 1) (.v 1)) (.v 1)) (.v 1)) (.v 1)))) (.m (.v 0) (.m (.m (.m (.v 1) (.v 1)) (.v 1)) (.v 1)))) (.m (.v 2) (.m (.m (.m (.m (.m (.m (.m (.v 4) (.v 4)) (.v 4)) (.v 4)) (.v 4)) (.v 4)) (.v 4)) (.v 4)))) (.m (.v 1) (.m (.m (.m (.m (.m (.m (.m (.v 4) (.v 4)) (.v 4)) (.v 4)) (.v 4)) (.v 4)) (.v 4)) (.v 4)))) (.m (.m (.v 5) (.v 5)) (.m (.m (.m (.v 0) (.v 0)) (.v 0)) (.v 0)))) (.m (.m (.v 0) (.v 0)) (.m (.m (.v 1) (.v 1)) (.v 1)))) (.m (.m (.n (-15)) (.m (.v 0) (.v 0))) (.m (.m (.v 2) (.v 2)) (.v 2)))) (.m (.m (.n (-14)) (.m (.m (.v 0) (.v 0)) (.v 0))) (.m (.v 2) (.v 2)))) (.m (.m (.n (-9)) (.m (.m (.m (.v 4) (.v 4)) (.v 4)) (.v 4))) (.m (.m (.v 0) (.v 0)) (.v 0)))) (.m (.m (.n (-6)) (.v 0)) (.m (.m (.m (.v 2) (.v 2)) (.v 2)) (.v 2)))) (.m (.m (.n (-6)) (.v 2)) (.m (.m (.m (.v 0) (.v 0)) (.v 0)) (.v 0)))) (.m (.m (.n (-5)) (.m (.v 4) (.v 4))) (.m (.m (.m (.v 1) (.v 1)) (.v 1)) (.v 1)))) (.m (.m (.n (-5)) (.m (.m (.m (.v 4) (.v 4)) (.v 4)) (.v 4))) (.m (.m (.v 1) (.v 1)) (.v 1)))) (.m (.m (.n (-4)) (.m (.m (.m (.m (.m (.v 4) (.v 4)) (.v 4)) (.v 4)) (.v 4)) (.v 4))) (.m (.v 2) (.v 2)))) (.m (.m (.n (-3)) (.m (.v 4) (.v 4))) (.m (.m (.m (.v 2) (.v 2)) (.v 2)) (.v 2)))) (.m (.m (.n (-3)) (.m (.m (.v 0) (.v 0)) (.v 0))) (.m (.v 1) (.v 1)))) (.m (.m (.n (-3)) (.m (.m (.v 2) (.v 2)) (.v 2))) (.m (.v 1) (.v 1)))) (.m (.m (.n (-2)) (.v 0)) (.m (.m (.m (.m (.m (.m (.m (.v 4) (.v 4)) (.v 4)) (.v 4)) (.v 4)) (.v 4)) (.v 4)) (.v 4)))) (.m (.m (.n (-2)) (.m (.m (.m (.m (.m (.m (.v 4) (.v 4)) (.v 4)) (.v 4)) (.v 4)) (.v 4)) (.v 4))) (.m (.m (.v 5) (.v 5)) (.v 5)))) (.m (.m (.n 2) (.v 2)) (.m (.m (.m (.v 1) (.v 1)) (.v 1)) (.v 1)))) (.m (.m (.n 2) (.v 1)) (.m (.m (.m (.v 0) (.v 0)) (.v 0)) (.v 0)))) (.m (.m (.n 2) (.m (.m (.m (.v 4) (.v 4)) (.v 4)) (.v 4))) (.m (.m (.v 2) (.v 2)) (.v 2)))) (.m (.m (.n 2) (.m (.v 5) (.v 5))) (.m (.m (.m (.v 2) (.v 2)) (.v 2)) (.v 2)))) (.m (.m (.n 2) (.m (.v 2) (.v 2))) (.m (.m (.v 1) (.v 1)) (.v 1)))) (.m (.m (.n 3) (.m (.m (.m (.m (.m (.v 4) (.v 4)) (.v 4)) (.v 4)) (.v 4)) (.v 4))) (.m (.v 1) (.v 1)))) (.m (.m (.n 3) (.m (.v 5) (.v 5))) (.m (.m (.m (.v 1) (.v 1)) (.v 1)) (.v 1)))) (.m (.m (.n 5) (.m (.v 4) (.v 4))) (.m (.m (.m (.v 0) (.v 0)) (.v 0)) (.v 0)))) (.m (.m (.n 7) (.m (.m (.m (.m (.m (.v 4) (.v 4)) (.v 4)) (.v 4)) (.v 4)) (.v 4))) (.m (.v 0) (.v 0)))) (.m (.m (.v 4) (.m (.m (.v 5) (.v 5)) (.v 5))) (.m (.m (.v 0) (.v 0)) (.v 0)))) (.m (.m (.v 5) (.v 2)) (.m (.m (.m (.m (.m (.m (.v 4) (.v 4)) (.v 4)) (.v 4)) (.v 4)) (.v 4)) (.v 4)))) (.m (.m (.v 0) (.m (.v 4) (.v 4))) (.m (.m (.v 1) (.v 1)) (.v 1)))) (.m (.m (.v 2) (.m (.v 4) (.v 4))) (.m (.m (.v 1) (.v 1)) (.v 1)))) (.m (.m (.v 2) (.m (.m (.m (.v 5) (.v 5)) (.v 5)) (.v 5))) (.m (.v 1) (.v 1)))) (.m (.m (.v 1) (.m (.m (.m (.v 5) (.v 5)) (.v 5)) (.v 5))) (.m (.v 0) (.v 0)))) (.m (.m (.m (.n (-1)) (.v 0)) (.m (.m (.m (.v 5) (.v 5)) (.v 5)) (.v 5))) (.m (.v 1) (.v 1)))) (.m (.m (.m (.n (-1)) (.v 2)) (.m (.m (.m (.m (.m (.v 4) (.v 4)) (.v 4)) (.v 4)) (.v 4)) (.v 4))) (.m (.v 5) (.v 5)))) (.m (.m (.m (.n (-1)) (.v 2)) (.m (.m (.m (.v 5) (.v 5)) (.v 5)) (.v 5))) (.m (.v 0) (.v 0)))) (.m (.m (.m (.n (-1)) (.v 1)) (.m (.m (.m (.v 5) (.v 5)) (.v 5)) (.v 5))) (.m (.v 2) (.v 2)))) (.m (.m (.m (.n (-1)) (.m (.v 4) (.v 4))) (.m (.m (.m (.v 5) (.v 5)) (.v 5)) (.v 5))) (.m (.v 1) (.v 1)))) (.m (.m (.m (.n (-27)) (.v 2)) (.m (.m (.m (.v 4) (.v 4)) (.v 4)) (.v 4))) (.m (.v 0) (.v 0)))) (.m (.m (.m (.n (-21)) (.v 2)) (.m (.m (.m (.v 4) (.v 4)) (.v 4)) (.v 4))) (.m (.v 1) (.v 1)))) (.m (.m (.m (.n (-18)) (.v 0)) (.m (.m (.m (.v 4) (.v 4)) (.v 4)) (.v 4))) (.m (.v 2) (.v 2)))) (.m (.m (.m (.n (-15)) (.v 0)) (.m (.v 2) (.v 2))) (.m (.v 1) (.v 1)))) (.m (.m (.m (.n (-14)) (.m (.v 4) (.v 4))) (.m (.v 5) (.v 5))) (.m (.m (.v 2) (.v 2)) (.v 2)))) (.m (.m (.m (.n (-12)) (.v 2)) (.m (.v 0) (.v 0))) (.m (.v 1) (.v 1)))) (.m (.m (.m (.n (-9)) (.v 0)) (.m (.m (.m (.v 4) (.v 4)) (.v 4)) (.v 4))) (.m (.v 1) (.v 1)))) (.m (.m (.m (.n (-9)) (.v 2)) (.m (.v 5) (.v 5))) (.m (.m (.v 1) (.v 1)) (.v 1)))) (.m (.m (.m (.n (-7)) (.v 1)) (.m (.v 4) (.v 4))) (.m (.m (.v 0) (.v 0)) (.v 0)))) (.m (.m (.m (.n (-6)) (.v 3)) (.m (.m (.m (.v 4) (.v 4)) (.v 4)) (.v 4))) (.m (.m (.v 5) (.v 5)) (.v 5)))) (.m (.m (.m (.n (-5)) (.v 0)) (.v 1)) (.m (.m (.m (.m (.m (.v 4) (.v 4)) (.v 4)) (.v 4)) (.v 4)) (.v 4)))) (.m (.m (.m (.n (-5)) (.v 1)) (.m (.v 5) (.v 5))) (.m (.m (.v 2) (.v 2)) (.v 2)))) (.m (.m (.m (.n (-4)) (.v 5)) (.v 3)) (.m (.m (.v 2) (.v 2)) (.v 2)))) (.m (.m (.m (.n (-4)) (.v 2)) (.v 1)) (.m (.m (.m (.m (.m (.v 4) (.v 4)) (.v 4)) (.v 4)) (.v 4)) (.v 4)))) (.m (.m (.m (.n (-4)) (.m (.v 4) (.v 4))) (.m (.v 5) (.v 5))) (.m (.m (.v 0) (.v 0)) (.v 0)))) (.m (.m (.m (.n (-4)) (.m (.m (.v 4) (.v 4)) (.v 4))) (.m (.m (.v 5) (.v 5)) (.v 5))) (.m (.v 0) (.v 0)))) (.m (.m (.m (.n (-3)) (.v 4)) (.m (.m (.v 5) (.v 5)) (.v 5))) (.m (.m (.v 2) (.v 2)) (.v 2)))) (.m (.m (.m (.n (-3)) (.v 5)) (.m (.m (.v 4) (.v 4)) (.v 4))) (.m (.m (.v 1) (.v 1)) (.v 1)))) (.m (.m (.m (.n (-3)) (.v 0)) (.m (.v 5) (.v 5))) (.m (.m (.v 1) (.v 1)) (.v 1)))) (.m (.m (.m (.n (-3)) (.v 1)) (.m (.m (.m (.v 4) (.v 4)) (.v 4)) (.v 4))) (.m (.v 2) (.v 2)))) (.m (.m (.m (.n (-3)) (.v 1)) (.m (.v 5) (.v 5))) (.m (.m (.v 0) (.v 0)) (.v 0)))) (.m (.m (.m (.n (-2)) (.v 4)) (.v 5)) (.m (.m (.m (.v 1) (.v 1)) (.v 1)) (.v 1)))) (.m (.m (.m (.n (-2)) (.v 4)) (.v 3)) (.m (.m (.v 1) (.v 1)) (.v 1)))) (.m (.m (.m (.n (-2)) (.v 5)) (.m (.m (.m (.m (.v 4) (.v 4)) (.v 4)) (.v 4)) (.v 4))) (.m (.v 2) (.v 2)))) (.m (.m (.m (.n (-2)) (.v 0)) (.m (.m (.m (.m (.m (.v 4) (.v 4)) (.v 4)) (.v 4)) (.v 4)) (.v 4))) (.m (.v 5) (.v 5)))) (.m (.m (.m (.n (-2)) (.v 0)) (.m (.m (.m (.v 5) (.v 5)) (.v 5)) (.v 5))) (.m (.v 2) (.v 2)))) (.m (.m (.m (.n 2) (.v 4)) (.v 3)) (.m (.m (.v 2) (.v 2)) (.v 2)))) (.m (.m (.m (.n 2) (.v 4)) (.m (.m (.v 5) (.v 5)) (.v 5))) (.m (.m (.v 1) (.v 1)) (.v 1)))) (.m (.m (.m (.n 2) (.v 5)) (.m (.m (.v 4) (.v 4)) (.v 4))) (.m (.m (.v 2) (.v 2)) (.v 2)))) (.m (.m (.m (.n 2) (.m (.v 4) (.v 4))) (.m (.m (.m (.v 5) (.v 5)) (.v 5)) (.v 5))) (.m (.v 2) (.v 2)))) (.m (.m (.m (.n 3) (.v 4)) (.v 5)) (.m (.m (.m (.v 2) (.v 2)) (.v 2)) (.v 2)))) (.m (.m (.m (.n 3) (.v 0)) (.v 2)) (.m (.m (.v 1) (.v 1)) (.v 1)))) (.m (.m (.m (.n 3) (.v 1)) (.m (.v 4) (.v 4))) (.m (.m (.v 2) (.v 2)) (.v 2)))) (.m (.m (.m (.n 3) (.v 1)) (.m (.m (.m (.m (.v 4) (.v 4)) (.v 4)) (.v 4)) (.v 4))) (.m (.m (.v 5) (.v 5)) (.v 5)))) (.m (.m (.m (.n 3) (.v 1)) (.m (.m (.m (.m (.m (.v 4) (.v 4)) (.v 4)) (.v 4)) (.v 4)) (.v 4))) (.m (.v 5) (.v 5)))) (.m (.m (.m (.n 4) (.v 5)) (.m (.m (.m (.m (.v 4) (.v 4)) (.v 4)) (.v 4)) (.v 4))) (.m (.v 1) (.v 1)))) (.m (.m (.m (.n 4) (.v 2)) (.m (.m (.m (.m (.v 4) (.v 4)) (.v 4)) (.v 4)) (.v 4))) (.m (.m (.v 5) (.v 5)) (.v 5)))) (.m (.m (.m (.n 4) (.v 3)) (.m (.m (.m (.m (.v 4) (.v 4)) (.v 4)) (.v 4)) (.v 4))) (.m (.v 5) (.v 5)))) (.m (.m (.m (.n 4) (.m (.v 4) (.v 4))) (.m (.v 5) (.v 5))) (.m (.v 3) (.v 3)))) (.m (.m (.m (.n 4) (.m (.v 5) (.v 5))) (.m (.v 0) (.v 0))) (.m (.v 1) (.v 1)))) (.m (.m (.m (.n 5) (.v 5)) (.v 1)) (.m (.m (.m (.m (.m (.m (.v 4) (.v 4)) (.v 4)) (.v 4)) (.v 4)) (.v 4)) (.v 4)))) (.m (.m (.m (.n 5) (.v 0)) (.m (.m (.m (.m (.v 4) (.v 4)) (.v 4)) (.v 4)) (.v 4))) (.m (.m (.v 5) (.v 5)) (.v 5)))) (.m (.m (.m (.n 5) (.v 2)) (.m (.v 5) (.v 5))) (.m (.m (.v 0) (.v 0)) (.v 0)))) (.m (.m (.m (.n 5) (.m (.m (.v 4) (.v 4)) (.v 4))) (.m (.m (.v 5) (.v 5)) (.v 5))) (.m (.v 2) (.v 2)))) (.m (.m (.m (.n 5) (.m (.m (.m (.v 4) (.v 4)) (.v 4)) (.v 4))) (.m (.v 5) (.v 5))) (.m (.v 0) (.v 0)))) (.m (.m (.m (.n 6) (.v 5)) (.v 3)) (.m (.m (.v 1) (.v 1)) (.v 1)))) (.m (.m (.m (.n 6) (.m (.m (.v 4) (.v 4)) (.v 4))) (.m (.m (.v 5) (.v 5)) (.v 5))) (.m (.v 1) (.v 1)))) (.m (.m (.m (.n 7) (.m (.v 4) (.v 4))) (.m (.v 5) (.v 5))) (.m (.m (.v 1) (.v 1)) (.v 1)))) (.m (.m (.m (.n 7) (.m (.m (.m (.v 4) (.v 4)) (.v 4)) (.v 4))) (.m (.v 5) (.v 5))) (.m (.v 2) (.v 2)))) (.m (.m (.m (.n 9) (.v 0)) (.v 2)) (.m (.m (.m (.m (.m (.v 4) (.v 4)) (.v 4)) (.v 4)) (.v 4)) (.v 4)))) (.m (.m (.m (.n 9) (.v 0)) (.m (.v 5) (.v 5))) (.m (.m (.v 2) (.v 2)) (.v 2)))) (.m (.m (.m (.n 9) (.v 1)) (.m (.m (.m (.v 4) (.v 4)) (.v 4)) (.v 4))) (.m (.v 0) (.v 0)))) (.m (.m (.m (.n 9) (.m (.v 4) (.v 4))) (.m (.v 0) (.v 0))) (.m (.v 1) (.v 1)))) (.m (.m (.m (.n 10) (.v 2)) (.v 1)) (.m (.m (.v 0) (.v 0)) (.v 0)))) (.m (.m (.m (.n 10) (.m (.v 5) (.v 5))) (.m (.v 0) (.v 0))) (.m (.v 2) (.v 2)))) (.m (.m (.m (.n 10) (.m (.v 5) (.v 5))) (.m (.v 2) (.v 2))) (.m (.v 1) (.v 1)))) (.m (.m (.m (.n 11) (.m (.m (.m (.v 4) (.v 4)) (.v 4)) (.v 4))) (.m (.v 5) (.v 5))) (.m (.v 1) (.v 1)))) (.m (.m (.m (.n 12) (.v 0)) (.v 1)) (.m (.m (.v 2) (.v 2)) (.v 2)))) (.m (.m (.m (.n 18) (.v 0)) (.m (.v 4) (.v 4))) (.m (.m (.v 2) (.v 2)) (.v 2)))) (.m (.m (.m (.n 18) (.v 1)) (.m (.v 0) (.v 0))) (.m (.v 2) (.v 2)))) (.m (.m (.m (.n 18) (.m (.v 4) (.v 4))) (.m (.v 2) (.v 2))) (.m (.v 1) (.v 1)))) (.m (.m (.m (.n 23) (.v 2)) (.m (.v 4) (.v 4))) (.m (.m (.v 0) (.v 0)) (.v 0)))) (.m (.m (.m (.n 36) (.m (.v 4) (.v 4))) (.m (.v 0) (.v 0))) (.m (.v 2) (.v 2)))) (.m (.m (.m (.v 4) (.v 5)) (.v 0)) (.m (.m (.v 2) (.v 2)) (.v 2)))) (.m (.m (.m (.m (.n (-1)) (.v 4)) (.v 5)) (.v 2)) (.m (.m (.v 0) (.v 0)) (.v 0)))) (.m (.m (.m (.m (.n (-1)) (.v 4)) (.v 5)) (.v 2)) (.m (.m (.v 1) (.v 1)) (.v 1)))) (.m (.m (.m (.m (.n (-1)) (.v 2)) (.v 1)) (.m (.v 4) (.v 4))) (.m (.m (.m (.v 5) (.v 5)) (.v 5)) (.v 5)))) (.m (.m (.m (.m (.n (-24)) (.v 2)) (.v 1)) (.m (.v 4) (.v 4))) (.m (.v 0) (.v 0)))) (.m (.m (.m (.m (.n (-23)) (.v 5)) (.v 2)) (.v 1)) (.m (.m (.m (.m (.v 4) (.v 4)) (.v 4)) (.v 4)) (.v 4)))) (.m (.m (.m (.m (.n (-22)) (.v 0)) (.m (.v 4) (.v 4))) (.m (.v 5) (.v 5))) (.m (.v 2) (.v 2)))) (.m (.m (.m (.m (.n (-21)) (.v 0)) (.v 1)) (.m (.v 4) (.v 4))) (.m (.v 2) (.v 2)))) (.m (.m (.m (.m (.n (-20)) (.v 2)) (.m (.v 4) (.v 4))) (.m (.v 5) (.v 5))) (.m (.v 1) (.v 1)))) (.m (.m (.m (.m (.n (-18)) (.v 2)) (.v 1)) (.m (.m (.v 4) (.v 4)) (.v 4))) (.m (.m (.v 5) (.v 5)) (.v 5)))) (.m (.m (.m (.m (.n (-18)) (.v 2)) (.v 3)) (.m (.m (.v 4) (.v 4)) (.v 4))) (.m (.v 5) (.v 5)))) (.m (.m (.m (.m (.n (-16)) (.v 4)) (.v 5)) (.v 1)) (.m (.m (.v 2) (.v 2)) (.v 2)))) (.m (.m (.m (.m (.n (-15)) (.v 2)) (.m (.v 4) (.v 4))) (.m (.v 5) (.v 5))) (.m (.v 0) (.v 0)))) (.m (.m (.m (.m (.n (-14)) (.v 5)) (.v 2)) (.v 3)) (.m (.v 1) (.v 1)))) (.m (.m (.m (.m (.n (-14)) (.v 0)) (.v 1)) (.m (.v 5) (.v 5))) (.m (.v 2) (.v 2)))) (.m (.m (.m (.m (.n (-13)) (.v 5)) (.v 2)) (.m (.m (.v 4) (.v 4)) (.v 4))) (.m (.v 1) (.v 1)))) (.m (.m (.m (.m (.n (-12)) (.v 5)) (.v 0)) (.v 1)) (.m (.m (.m (.m (.v 4) (.v 4)) (.v 4)) (.v 4)) (.v 4)))) (.m (.m (.m (.m (.n (-11)) (.v 2)) (.v 1)) (.m (.v 5) (.v 5))) (.m (.v 0) (.v 0)))) (.m (.m (.m (.m (.n (-10)) (.v 0)) (.m (.v 4) (.v 4))) (.m (.v 5) (.v 5))) (.m (.v 1) (.v 1)))) (.m (.m (.m (.m (.n (-10)) (.v 2)) (.v 1)) (.m (.m (.m (.v 4) (.v 4)) (.v 4)) (.v 4))) (.m (.v 5) (.v 5)))) (.m (.m (.m (.m (.n (-9)) (.v 4)) (.v 2)) (.m (.m (.v 5) (.v 5)) (.v 5))) (.m (.v 1) (.v 1)))) (.m (.m (.m (.m (.n (-9)) (.v 0)) (.v 1)) (.m (.m (.m (.v 4) (.v 4)) (.v 4)) (.v 4))) (.m (.v 5) (.v 5)))) (.m (.m (.m (.m (.n (-8)) (.v 5)) (.v 0)) (.m (.m (.v 4) (.v 4)) (.v 4))) (.m (.v 1) (.v 1)))) (.m (.m (.m (.m (.n (-7)) (.v 0)) (.v 2)) (.m (.m (.v 4) (.v 4)) (.v 4))) (.m (.m (.v 5) (.v 5)) (.v 5)))) (.m (.m (.m (.m (.n (-6)) (.v 5)) (.v 0)) (.v 3)) (.m (.v 2) (.v 2)))) (.m (.m (.m (.m (.n (-6)) (.v 0)) (.v 3)) (.m (.m (.v 4) (.v 4)) (.v 4))) (.m (.v 5) (.v 5)))) (.m (.m (.m (.m (.n (-4)) (.v 4)) (.v 5)) (.v 2)) (.m (.v 3) (.v 3)))) (.m (.m (.m (.m (.n (-4)) (.v 5)) (.v 0)) (.v 3)) (.m (.v 1) (.v 1)))) (.m (.m (.m (.m (.n (-3)) (.v 4)) (.v 0)) (.m (.m (.v 5) (.v 5)) (.v 5))) (.m (.v 1) (.v 1)))) (.m (.m (.m (.m (.n (-3)) (.v 5)) (.v 0)) (.v 2)) (.m (.m (.m (.m (.v 4) (.v 4)) (.v 4)) (.v 4)) (.v 4)))) (.m (.m (.m (.m (.n (-3)) (.v 0)) (.v 1)) (.m (.v 4) (.v 4))) (.m (.m (.m (.v 5) (.v 5)) (.v 5)) (.v 5)))) (.m (.m (.m (.m (.n (-3)) (.v 0)) (.v 1)) (.m (.m (.v 4) (.v 4)) (.v 4))) (.m (.m (.v 5) (.v 5)) (.v 5)))) (.m (.m (.m (.m (.n (-2)) (.v 4)) (.v 5)) (.v 1)) (.m (.m (.v 0) (.v 0)) (.v 0)))) (.m (.m (.m (.m (.n (-2)) (.v 4)) (.v 5)) (.m (.v 0) (.v 0))) (.m (.v 2) (.v 2)))) (.m (.m (.m (.m (.n (-2)) (.v 4)) (.v 2)) (.v 3)) (.m (.m (.m (.v 5) (.v 5)) (.v 5)) (.v 5)))) (.m (.m (.m (.m (.n (-2)) (.v 5)) (.v 2)) (.v 3)) (.m (.v 0) (.v 0)))) (.m (.m (.m (.m (.n 2) (.v 4)) (.v 1)) (.v 3)) (.m (.m (.m (.v 5) (.v 5)) (.v 5)) (.v 5)))) (.m (.m (.m (.m (.n 2) (.v 4)) (.v 3)) (.m (.v 5) (.v 5))) (.m (.v 0) (.v 0)))) (.m (.m (.m (.m (.n 2) (.v 5)) (.v 1)) (.v 3)) (.m (.v 0) (.v 0)))) (.m (.m (.m (.m (.n 2) (.v 0)) (.v 3)) (.m (.v 4) (.v 4))) (.m (.m (.v 5) (.v 5)) (.v 5)))) (.m (.m (.m (.m (.n 3) (.v 4)) (.v 2)) (.m (.m (.v 5) (.v 5)) (.v 5))) (.m (.v 0) (.v 0)))) (.m (.m (.m (.m (.n 3) (.v 5)) (.v 2)) (.m (.m (.v 4) (.v 4)) (.v 4))) (.m (.v 0) (.v 0)))) (.m (.m (.m (.m (.n 3) (.v 0)) (.v 2)) (.v 1)) (.m (.m (.m (.v 5) (.v 5)) (.v 5)) (.v 5)))) (.m (.m (.m (.m (.n 3) (.v 0)) (.v 2)) (.m (.v 4) (.v 4))) (.m (.m (.m (.v 5) (.v 5)) (.v 5)) (.v 5)))) (.m (.m (.m (.m (.n 4) (.v 4)) (.v 5)) (.v 1)) (.m (.v 3) (.v 3)))) (.m (.m (.m (.m (.n 4) (.v 4)) (.v 5)) (.m (.v 0) (.v 0))) (.m (.v 1) (.v 1)))) (.m (.m (.m (.m (.n 4) (.v 5)) (.v 0)) (.m (.m (.v 4) (.v 4)) (.v 4))) (.m (.v 2) (.v 2)))) (.m (.m (.m (.m (.n 4) (.v 5)) (.v 2)) (.v 3)) (.m (.m (.m (.v 4) (.v 4)) (.v 4)) (.v 4)))) (.m (.m (.m (.m (.n 4) (.v 2)) (.v 3)) (.m (.v 4) (.v 4))) (.m (.m (.v 5) (.v 5)) (.v 5)))) (.m (.m (.m (.m (.n 6) (.v 5)) (.v 3)) (.m (.v 4) (.v 4))) (.m (.v 2) (.v 2)))) (.m (.m (.m (.m (.n 8) (.v 4)) (.v 3)) (.m (.v 5) (.v 5))) (.m (.v 1) (.v 1)))) (.m (.m (.m (.m (.n 9) (.v 5)) (.v 1)) (.m (.m (.v 4) (.v 4)) (.v 4))) (.m (.v 0) (.v 0)))) (.m (.m (.m (.m (.n 9) (.v 1)) (.m (.v 4) (.v 4))) (.m (.v 5) (.v 5))) (.m (.v 0) (.v 0)))) (.m (.m (.m (.m (.n 10) (.v 4)) (.v 5)) (.m (.v 2) (.v 2))) (.m (.v 1) (.v 1)))) (.m (.m (.m (.m (.n 10) (.v 4)) (.v 3)) (.m (.v 5) (.v 5))) (.m (.v 2) (.v 2)))) (.m (.m (.m (.m (.n 10) (.v 5)) (.v 3)) (.m (.v 4) (.v 4))) (.m (.v 1) (.v 1)))) (.m (.m (.m (.m (.n 10) (.v 0)) (.v 2)) (.m (.v 5) (.v 5))) (.m (.v 1) (.v 1)))) (.m (.m (.m (.m (.n 11) (.v 0)) (.v 2)) (.m (.m (.m (.v 4) (.v 4)) (.v 4)) (.v 4))) (.m (.v 5) (.v 5)))) (.m (.m (.m (.m (.n 12) (.v 4)) (.v 1)) (.m (.m (.v 5) (.v 5)) (.v 5))) (.m (.v 2) (.v 2)))) (.m (.m (.m (.m (.n 12) (.v 5)) (.v 1)) (.v 3)) (.m (.v 2) (.v 2)))) (.m (.m (.m (.m (.n 12) (.v 1)) (.v 3)) (.m (.m (.v 4) (.v 4)) (.v 4))) (.m (.v 5) (.v 5)))) (.m (.m (.m (.m (.n 14) (.v 5)) (.v 1)) (.v 3)) (.m (.m (.m (.v 4) (.v 4)) (.v 4)) (.v 4)))) (.m (.m (.m (.m (.n 18) (.v 0)) (.v 2)) (.v 1)) (.m (.m (.m (.v 4) (.v 4)) (.v 4)) (.v 4)))) (.m (.m (.m (.m (.n 19) (.v 1)) (.m (.v 4) (.v 4))) (.m (.v 5) (.v 5))) (.m (.v 2) (.v 2)))) (.m (.m (.m (.m (.n 27) (.v 0)) (.v 2)) (.m (.v 4) (.v 4))) (.m (.v 1) (.v 1)))) (.m (.m (.m (.m (.n 35) (.v 5)) (.v 1)) (.m (.m (.v 4) (.v 4)) (.v 4))) (.m (.v 2) (.v 2)))) (.m (.m (.m (.m (.m (.n (-28)) (.v 5)) (.v 2)) (.v 1)) (.v 3)) (.m (.v 4) (.v 4)))) (.m (.m (.m (.m (.m (.n (-23)) (.v 4)) (.v 5)) (.v 0)) (.v 1)) (.m (.v 2) (.v 2)))) (.m (.m (.m (.m (.m (.n (-16)) (.v 4)) (.v 2)) (.v 1)) (.v 3)) (.m (.v 5) (.v 5)))) (.m (.m (.m (.m (.m (.n (-11)) (.v 4)) (.v 5)) (.v 2)) (.v 1)) (.m (.v 0) (.v 0)))) (.m (.m (.m (.m (.m (.n (-10)) (.v 5)) (.v 0)) (.v 1)) (.v 3)) (.m (.v 4) (.v 4)))) (.m (.m (.m (.m (.m (.n (-6)) (.v 4)) (.v 0)) (.v 1)) (.v 3)) (.m (.v 5) (.v 5)))) (.m (.m (.m (.m (.m (.n 4) (.v 5)) (.v 0)) (.v 2)) (.v 3)) (.m (.v 4) (.v 4)))) (.m (.m (.m (.m (.m (.n 6) (.v 4)) (.v 0)) (.v 2)) (.v 1)) (.m (.m (.v 5) (.v 5)) (.v 5)))) (.m (.m (.m (.m (.m (.n 8) (.v 4)) (.v 0)) (.v 2)) (.v 3)) (.m (.v 5) (.v 5)))) (.m (.m (.m (.m (.m (.n 10) (.v 5)) (.v 0)) (.v 2)) (.v 1)) (.v 3))) (.m (.m (.m (.m (.m (.n 13) (.v 4)) (.v 5)) (.v 0)) (.v 2)) (.m (.v 1) (.v 1)))) (.m (.m (.m (.m (.m (.n 23) (.v 0)) (.v 2)) (.v 1)) (.m (.v 4) (.v 4))) (.m (.v 5) (.v 5)))) (.m (.m (.m (.m (.m (.n 34) (.v 5)) (.v 0)) (.v 2)) (.v 1)) (.m (.m (.v 4) (.v 4)) (.v 4))))
def Qytc : Ex := (.a (.a (.a (.a (.a (.a (.a (.a (.a (.a (.a (.a (.a (.a (.a (.a (.a (.a (.a (.a (.a (.a (.a (.a (.a (.a (.a (.a (.a (.a (.a (.a (.a (.a (.a (.a (.a (.a (.a (.a (.a (.a (.a (.a (.a (.a (.a (.a (.a (.a (.a (.a (.a (.a (.a (.a (.a (.a (.a (.a (.a (.a (.a (.a (.a (.a (.a (.a (.a (.a (.a (.a (.a (.a (.a (.a (.a (.a (.a (.a (.a (.a (.a (.a (.a (.a (.a (.a (.a (.a (.a (.a (.a (.a (.a (.a (.a (.a (.a (.a (.a (.a (.a (.a (.a (.a (.a (.a (.a (.a (.a (.a (.a (.a (.a (.a (.a (.m (.n (-1)) (.m (.m (.m (.m (.v 2) (.v 2)) (.v 2)) (.v 2)) (.v 2))) (.m (.n (-1)) (.m (.m (.m (.m (.v 1) (.v 1)) (.v 1)) (.v 1)) (.v 1)))) (.m (.m (.v 5) (.v 5)) (.m (.m (.m (.v 2) (.v 2)) (.v 2)) (.v 2)))) (.m (.m (.v 5) (.v 5)) (.m (.m (.m (.v 1) (.v 1)) (.v 1)) (.v 1)))) (.m (.m (.n (-1)) (.v 0)) (.m (.m (.m (.v 2) (.v 2)) (.v 2)) (.v 2)))) (.m (.m (.n (-6)) (.m (.m (.m (.v 4) (.v 4)) (.v 4)) (.v 4))) (.m (.m (.v 1) (.v 1)) (.v 1)))) (.m (.m (.n (-5)) (.m (.m (.m (.v 4) (.v 4)) (.v 4)) (.v 4))) (.m (.m (.v 2) (.v 2)) (.v 2)))) (.m (.m (.n (-5)) (.m (.m (.m (.m (.m (.v 4) (.v 4)) (.v 4)) (.v 4)) (.v 4)) (.v 4))) (.m (.v 1) (.v 1)))) (.m (.m (.n (-3)) (.v 2)) (.m (.m (.m (.m (.m (.m (.m (.v 4) (.v 4)) (.v 4)) (.v 4)) (.v 4)) (.v 4)) (.v 4)) (.v 4)))) (.m (.m (.n (-3)) (.v 1)) (.m (.m (.m (.m (.m (.m (.m (.v 4) (.v 4)) (.v 4)) (.v 4)) (.v 4)) (.v 4)) (.v 4)) (.v 4)))) (.m (.m (.n (-3)) (.m (.v 4) (.v 4))) (.m (.m (.m (.v 1) (.v 1)) (.v 1)) (.v 1)))) (.m (.m (.n (-2)) (.m (.v 2) (.v 2))) (.m (.m (.v 1) (.v 1)) (.v 1)))) (.m (.m (.n (-2)) (.m (.m (.v 2) (.v 2)) (.v 2))) (.m (.v 1) (.v 1)))) (.m (.m (.n 2) (.v 0)) (.m (.m (.m (.v 1) (.v 1)) (.v 1)) (.v 1)))) (.m (.m (.n 2) (.m (.m (.m (.m (.m (.m (.m (.v 4) (.v 4)) (.v 4)) (.v 4)) (.v 4)) (.v 4)) (.v 4)) (.v 4))) (.m (.v 5) (.v 5)))) (.m (.m (.n 3) (.v 2)) (.m (.m (.m (.v 1) (.v 1)) (.v 1)) (.v 1)))) (.m (.m (.n 3) (.v 1)) (.m (.m (.m (.v 2) (.v 2)) (.v 2)) (.v 2)))) (.m (.m (.n 3) (.m (.v 4) (.v 4))) (.m (.m (.m (.v 2) (.v 2)) (.v 2)) (.v 2)))) (.m (.m (.n 13) (.m (.m (.m (.m (.m (.v 4) (.v 4)) (.v 4)) (.v 4)) (.v 4)) (.v 4))) (.m (.v 2) (.v 2)))) (.m (.m (.v 0) (.v 1)) (.m (.m (.v 2) (.v 2)) (.v 2)))) (.m (.m (.m (.v 4) (.v 4)) (.m (.v 5) (.v 5))) (.m (.m (.v 1) (.v 1)) (.v 1)))) (.m (.m (.m (.v 4) (.v 4)) (.m (.m (.m (.v 5) (.v 5)) (.v 5)) (.v 5))) (.m (.v 2) (.v 2)))) (.m (.m (.m (.v 4) (.v 4)) (.m (.m (.m (.v 5) (.v 5)) (.v 5)) (.v 5))) (.m (.v 1) (.v 1)))) (.m (.m (.m (.n (-1)) (.v 4)) (.m (.m (.v 5) (.v 5)) (.v 5))) (.m (.m (.v 2) (.v 2)) (.v 2)))) (.m (.m (.m (.n (-1)) (.v 1)) (.m (.m (.m (.m (.m (.v 4) (.v 4)) (.v 4)) (.v 4)) (.v 4)) (.v 4))) (.m (.v 5) (.v 5)))) (.m (.m (.m (.n (-16)) (.v 5)) (.m (.m (.m (.m (.v 4) (.v 4)) (.v 4)) (.v 4)) (.v 4))) (.m (.v 2) (.v 2)))) (.m (.m (.m (.n (-14)) (.v 1)) (.v 3)) (.m (.m (.m (.m (.v 4) (.v 4)) (.v 4)) (.v 4)) (.v 4)))) (.m (.m (.m (.n (-14)) (.v 1)) (.m (.m (.m (.v 4) (.v 4)) (.v 4)) (.v 4))) (.m (.v 2) (.v 2)))) (.m (.m (.m (.n (-12)) (.v 3)) (.m (.m (.v 4) (.v 4)) (.v 4))) (.m (.v 1) (.v 1)))) (.m (.m (.m (.n (-12)) (.m (.v 4) (.v 4))) (.m (.v 2) (.v 2))) (.m (.v 1) (.v 1)))) (.m (.m (.m (.n (-10)) (.v 3)) (.m (.m (.v 4) (.v 4)) (.v 4))) (.m (.v 2) (.v 2)))) (.m (.m (.m (.n (-9)) (.v 2)) (.m (.m (.m (.m (.m (.v 4) (.v 4)) (.v 4)) (.v 4)) (.v 4)) (.v 4))) (.m (.v 5) (.v 5)))) (.m (.m (.m (.n (-7)) (.v 0)) (.m (.m (.m (.v 4) (.v 4)) (.v 4)) (.v 4))) (.m (.v 2) (.v 2)))) (.m (.m (.m (.n (-6)) (.v 4)) (.v 3)) (.m (.m (.v 1) (.v 1)) (.v 1)))) (.m (.m (.m (.n (-6)) (.m (.m (.v 4) (.v 4)) (.v 4))) (.m (.m (.v 5) (.v 5)) (.v 5))) (.m (.v 2) (.v 2)))) (.m (.m (.m (.n (-5)) (.v 0)) (.v 2)) (.m (.m (.v 1) (.v 1)) (.v 1)))) (.m (.m (.m (.n (-4)) (.v 5)) (.v 3)) (.m (.m (.m (.m (.m (.v 4) (.v 4)) (.v 4)) (.v 4)) (.v 4)) (.v 4)))) (.m (.m (.m (.n (-4)) (.v 5)) (.m (.m (.v 4) (.v 4)) (.v 4))) (.m (.v 3) (.v 3)))) (.m (.m (.m (.n (-4)) (.v 5)) (.m (.m (.m (.m (.v 4) (.v 4)) (.v 4)) (.v 4)) (.v 4))) (.m (.v 1) (.v 1)))) (.m (.m (.m (.n (-4)) (.v 2)) (.v 3)) (.m (.m (.m (.m (.v 4) (.v 4)) (.v 4)) (.v 4)) (.v 4)))) (.m (.m (.m (.n (-4)) (.v 2)) (.m (.v 5) (.v 5))) (.m (.m (.v 1) (.v 1)) (.v 1)))) (.m (.m (.m (.n (-4)) (.v 1)) (.m (.v 4) (.v 4))) (.m (.v 3) (.v 3)))) (.m (.m (.m (.n (-4)) (.v 1)) (.m (.v 5) (.v 5))) (.m (.m (.v 2) (.v 2)) (.v 2)))) (.m (.m (.m (.n (-3)) (.v 5)) (.v 1)) (.m (.m (.m (.m (.m (.m (.v 4) (.v 4)) (.v 4)) (.v 4)) (.v 4)) (.v 4)) (.v 4)))) (.m (.m (.m (.n (-3)) (.v 5)) (.m (.m (.v 4) (.v 4)) (.v 4))) (.m (.m (.v 1) (.v 1)) (.v 1)))) (.m (.m (.m (.n (-3)) (.v 1)) (.m (.v 4) (.v 4))) (.m (.m (.v 2) (.v 2)) (.v 2)))) (.m (.m (.m (.n (-3)) (.v 1)) (.m (.m (.m (.m (.v 4) (.v 4)) (.v 4)) (.v 4)) (.v 4))) (.m (.m (.v 5) (.v 5)) (.v 5)))) (.m (.m (.m (.n (-2)) (.v 4)) (.v 5)) (.m (.m (.m (.v 2) (.v 2)) (.v 2)) (.v 2)))) (.m (.m (.m (.n (-2)) (.v 0)) (.m (.m (.m (.m (.m (.v 4) (.v 4)) (.v 4)) (.v 4)) (.v 4)) (.v 4))) (.m (.v 5) (.v 5)))) (.m (.m (.m (.n 2) (.v 4)) (.v 3)) (.m (.m (.v 2) (.v 2)) (.v 2)))) (.m (.m (.m (.n 2) (.m (.v 4) (.v 4))) (.m (.v 5) (.v 5))) (.m (.m (.v 2) (.v 2)) (.v 2)))) (.m (.m (.m (.n 3) (.v 5)) (.v 2)) (.m (.m (.m (.m (.m (.m (.v 4) (.v 4)) (.v 4)) (.v 4)) (.v 4)) (.v 4)) (.v 4)))) (.m (.m (.m (.n 3) (.v 0)) (.v 2)) (.m (.m (.m (.m (.m (.v 4) (.v 4)) (.v 4)) (.v 4)) (.v 4)) (.v 4)))) (.m (.m (.m (.n 3) (.v 0)) (.v 1)) (.m (.m (.m (.m (.m (.v 4) (.v 4)) (.v 4)) (.v 4)) (.v 4)) (.v 4)))) (.m (.m (.m (.n 3) (.v 0)) (.m (.v 2) (.v 2))) (.m (.v 1) (.v 1)))) (.m (.m (.m (.n 3) (.v 2)) (.m (.m (.m (.m (.v 4) (.v 4)) (.v 4)) (.v 4)) (.v 4))) (.m (.m (.v 5) (.v 5)) (.v 5)))) (.m (.m (.m (.n 4) (.v 2)) (.m (.v 4) (.v 4))) (.m (.v 3) (.v 3)))) (.m (.m (.m (.n 4) (.m (.m (.m (.v 4) (.v 4)) (.v 4)) (.v 4))) (.m (.v 5) (.v 5))) (.m (.v 2) (.v 2)))) (.m (.m (.m (.n 5) (.v 0)) (.m (.m (.m (.v 4) (.v 4)) (.v 4)) (.v 4))) (.m (.v 1) (.v 1)))) (.m (.m (.m (.n 6) (.v 0)) (.m (.v 4) (.v 4))) (.m (.m (.v 1) (.v 1)) (.v 1)))) (.m (.m (.m (.n 6) (.v 3)) (.m (.m (.m (.m (.v 4) (.v 4)) (.v 4)) (.v 4)) (.v 4))) (.m (.v 5) (.v 5)))) (.m (.m (.m (.n 6) (.m (.v 5) (.v 5))) (.m (.v 2) (.v 2))) (.m (.v 1) (.v 1)))) (.m (.m (.m (.n 11) (.v 5)) (.m (.m (.v 4) (.v 4)) (.v 4))) (.m (.m (.v 2) (.v 2)) (.v 2)))) (.m (.m (.m (.n 15) (.v 2)) (.m (.v 4) (.v 4))) (.m (.m (.v 1) (.v 1)) (.v 1)))) (.m (.m (.m (.n 16) (.v 2)) (.v 1)) (.m (.m (.m (.m (.m (.v 4) (.v 4)) (.v 4)) (.v 4)) (.v 4)) (.v 4)))) (.m (.m (.m (.n 19) (.v 2)) (.m (.m (.m (.v 4) (.v 4)) (.v 4)) (.v 4))) (.m (.v 1) (.v 1)))) (.m (.m (.m (.v 4) (.v 0)) (.m (.m (.v 5) (.v 5)) (.v 5))) (.m (.v 2) (.v 2)))) (.m (.m (.m (.v 4) (.v 0)) (.m (.m (.v 5) (.v 5)) (.v 5))) (.m (.v 1) (.v 1)))) (.m (.m (.m (.v 0) (.v 1)) (.m (.m (.m (.v 4) (.v 4)) (.v 4)) (.v 4))) (.m (.v 5) (.v 5)))) (.m (.m (.m (.m (.n (-1)) (.v 4)) (.v 5)) (.v 0)) (.m (.m (.v 2) (.v 2)) (.v 2)))) (.m (.m (.m (.m (.n (-1)) (.v 4)) (.v 2)) (.m (.m (.v 5) (.v 5)) (.v 5))) (.m (.v 1) (.v 1)))) (.m (.m (.m (.m (.n (-25)) (.v 5)) (.v 1)) (.m (.m (.v 4) (.v 4)) (.v 4))) (.m (.v 2) (.v 2)))) (.m (.m (.m (.m (.n (-12)) (.v 4)) (.v 5)) (.m (.v 2) (.v 2))) (.m (.v 1) (.v 1)))) (.m (.m (.m (.m (.n (-12)) (.v 5)) (.v 1)) (.v 3)) (.m (.m (.m (.v 4) (.v 4)) (.v 4)) (.v 4)))) (.m (.m (.m (.m (.n (-10)) (.v 4)) (.v 1)) (.v 3)) (.m (.v 2) (.v 2)))) (.m (.m (.m (.m (.n (-10)) (.v 0)) (.v 2)) (.v 1)) (.m (.m (.m (.v 4) (.v 4)) (.v 4)) (.v 4)))) (.m (.m (.m (.m (.n (-9)) (.v 0)) (.v 2)) (.m (.v 4) (.v 4))) (.m (.v 1) (.v 1)))) (.m (.m (.m (.m (.n (-6)) (.v 5)) (.v 3)) (.m (.v 4) (.v 4))) (.m (.v 2) (.v 2)))) (.m (.m (.m (.m (.n (-6)) (.v 5)) (.v 3)) (.m (.v 4) (.v 4))) (.m (.v 1) (.v 1)))) (.m (.m (.m (.m (.n (-6)) (.v 2)) (.v 3)) (.m (.m (.v 4) (.v 4)) (.v 4))) (.m (.v 5) (.v 5)))) (.m (.m (.m (.m (.n (-3)) (.v 5)) (.v 0)) (.v 2)) (.m (.m (.m (.m (.v 4) (.v 4)) (.v 4)) (.v 4)) (.v 4)))) (.m (.m (.m (.m (.n (-3)) (.v 0)) (.v 2)) (.m (.m (.v 4) (.v 4)) (.v 4))) (.m (.m (.v 5) (.v 5)) (.v 5)))) (.m (.m (.m (.m (.n (-3)) (.v 2)) (.m (.v 4) (.v 4))) (.m (.v 5) (.v 5))) (.m (.v 1) (.v 1)))) (.m (.m (.m (.m (.n (-2)) (.v 0)) (.v 2)) (.v 3)) (.m (.m (.v 4) (.v 4)) (.v 4)))) (.m (.m (.m (.m (.n (-2)) (.v 0)) (.v 3)) (.m (.m (.v 4) (.v 4)) (.v 4))) (.m (.v 5) (.v 5)))) (.m (.m (.m (.m (.n (-2)) (.v 2)) (.v 1)) (.m (.v 4) (.v 4))) (.m (.m (.m (.v 5) (.v 5)) (.v 5)) (.v 5)))) (.m (.m (.m (.m (.n (-2)) (.v 1)) (.v 3)) (.m (.v 4) (.v 4))) (.m (.m (.v 5) (.v 5)) (.v 5)))) (.m (.m (.m (.m (.n 2) (.v 4)) (.v 1)) (.m (.m (.v 5) (.v 5)) (.v 5))) (.m (.v 2) (.v 2)))) (.m (.m (.m (.m (.n 2) (.v 2)) (.v 1)) (.m (.m (.m (.v 4) (.v 4)) (.v 4)) (.v 4))) (.m (.v 5) (.v 5)))) (.m (.m (.m (.m (.n 2) (.v 2)) (.v 3)) (.m (.v 4) (.v 4))) (.m (.m (.v 5) (.v 5)) (.v 5)))) (.m (.m (.m (.m (.n 2) (.v 1)) (.v 3)) (.m (.m (.v 4) (.v 4)) (.v 4))) (.m (.v 5) (.v 5)))) (.m (.m (.m (.m (.n 3) (.v 5)) (.v 0)) (.v 1)) (.m (.m (.m (.m (.v 4) (.v 4)) (.v 4)) (.v 4)) (.v 4)))) (.m (.m (.m (.m (.n 3) (.v 0)) (.v 1)) (.m (.v 4) (.v 4))) (.m (.v 2) (.v 2)))) (.m (.m (.m (.m (.n 3) (.v 0)) (.v 1)) (.m (.m (.v 4) (.v 4)) (.v 4))) (.m (.m (.v 5) (.v 5)) (.v 5)))) (.m (.m (.m (.m (.n 4) (.v 4)) (.v 5)) (.v 0)) (.m (.m (.v 1) (.v 1)) (.v 1)))) (.m (.m (.m (.m (.n 4) (.v 4)) (.v 0)) (.v 3)) (.m (.v 2) (.v 2)))) (.m (.m (.m (.m (.n 4) (.v 4)) (.v 0)) (.v 3)) (.m (.v 1) (.v 1)))) (.m (.m (.m (.m (.n 4) (.v 5)) (.v 0)) (.v 3)) (.m (.m (.m (.v 4) (.v 4)) (.v 4)) (.v 4)))) (.m (.m (.m (.m (.n 4) (.v 5)) (.v 0)) (.m (.m (.v 4) (.v 4)) (.v 4))) (.m (.v 1) (.v 1)))) (.m (.m (.m (.m (.n 5) (.v 4)) (.v 5)) (.v 2)) (.m (.m (.v 1) (.v 1)) (.v 1)))) (.m (.m (.m (.m (.n 5) (.v 0)) (.v 2)) (.m (.m (.m (.v 4) (.v 4)) (.v 4)) (.v 4))) (.m (.v 5) (.v 5)))) (.m (.m (.m (.m (.n 6) (.v 2)) (.v 1)) (.m (.m (.v 4) (.v 4)) (.v 4))) (.m (.m (.v 5) (.v 5)) (.v 5)))) (.m (.m (.m (.m (.n 8) (.v 0)) (.v 1)) (.v 3)) (.m (.m (.v 4) (.v 4)) (.v 4)))) (.m (.m (.m (.m (.n 9) (.v 4)) (.v 5)) (.v 1)) (.m (.m (.v 2) (.v 2)) (.v 2)))) (.m (.m (.m (.m (.n 10) (.v 5)) (.v 0)) (.m (.m (.v 4) (.v 4)) (.v 4))) (.m (.v 2) (.v 2)))) (.m (.m (.m (.m (.n 14) (.v 4)) (.v 2)) (.v 3)) (.m (.v 1) (.v 1)))) (.m (.m (.m (.m (.n 17) (.v 5)) (.v 2)) (.m (.m (.v 4) (.v 4)) (.v 4))) (.m (.v 1) (.v 1)))) (.m (.m (.m (.m (.n 20) (.v 5)) (.v 2)) (.v 1)) (.m (.m (.m (.m (.v 4) (.v 4)) (.v 4)) (.v 4)) (.v 4)))) (.m (.m (.m (.m (.n 20) (.v 5)) (.v 2)) (.v 3)) (.m (.m (.m (.v 4) (.v 4)) (.v 4)) (.v 4)))) (.m (.m (.m (.m (.n 28) (.v 2)) (.v 1)) (.v 3)) (.m (.m (.v 4) (.v 4)) (.v 4)))) (.m (.m (.m (.m (.m (.n (-14)) (.v 5)) (.v 0)) (.v 2)) (.v 1)) (.m (.m (.v 4) (.v 4)) (.v 4)))) (.m (.m (.m (.m (.m (.n (-9)) (.v 4)) (.v 5)) (.v 0)) (.v 2)) (.m (.v 1) (.v 1)))) (.m (.m (.m (.m (.m (.n (-8)) (.v 4)) (.v 0)) (.v 2)) (.v 1)) (.v 3))) (.m (.m (.m (.m (.m (.n (-6)) (.v 5)) (.v 0)) (.v 2)) (.v 3)) (.m (.v 4) (.v 4)))) (.m (.m (.m (.m (.m (.n (-2)) (.v 4)) (.v 0)) (.v 2)) (.v 1)) (.m (.m (.v 5) (.v 5)) (.v 5)))) (.m (.m (.m (.m (.m (.n 6) (.v 4)) (.v 5)) (.v 0)) (.v 1)) (.m (.v 2) (.v 2)))) (.m (.m (.m (.m (.m (.n 6) (.v 5)) (.v 0)) (.v 1)) (.v 3)) (.m (.v 4) (.v 4)))) (.m (.m (.m (.m (.m (.n 12) (.v 5)) (.v 2)) (.v 1)) (.v 3)) (.m (.v 4) (.v 4))))
def Wytc : Ex := (.s (.s (.m (.m Nt (.s (.m (.m (.v 1) Dt) Dt) Ztc)) Fc) (.m (.m (.m (.m Y3 Dt) Dt) Dt) Fc)) (.s (.m (.m Mc (.s (.m (.m (.v 0) Dt) Dt) Ztc)) Dt) (.m (.m (.m (.m Y1 Dt) Dt) Dt) Fc)))
theorem id_ytc : Wytc.norm = (Ex.a (.m Pytc C1) (.m Qytc C2)).norm := by decide +kernel
end Go.Proofs.YtgdimcnokagddaaDoor.Ec

/-
  Own text. Sums of points on y y = x x x + b: the identities by which they hang on no brackets, chords (c) and tangents (t). Speaks of no program.
-/
namespace Go.Proofs.YtgdimcnokagddaaDoor.Ec
open Go.Proofs.YtgdimcnokagddaaDoor.Ring
set_option maxRecDepth 100000
def Ztt : Ex := (.s (.m Nt Nt) (.m (.m (.a X4 (.v 1)) Dt) Dt))
def Pytt : Ex := (.a (.a (.a (.a (.a (.a (.a (.a (.a (.a (.a (.a (.a (.a (.a (.a (.a (.a (.a (.a (.a (.a (.a (.a (.a (.a (.a (.a (.a (.a (.a (.a (.a (.a (.a (.a (.a (.a (.a (.a (.a (.a (.a (.a (.a (.a (.a (.a (.a (.a (.a (.a (.a (.a (.a (.a (.a (.a (.a (.a (.a (.a (.a (.a (.a (.a (.a (.a (.a (.a (.a (.a (.a (.a (.a (.a (.a (.a (.a (.a (.a (.a (.a (.a (.a (.a (.a (.a (.a (.a (.a (.a (.a (.a (.a (.a (.a (.a (.a (.a (.a (.a (.a (.a (.a (.a (.a (.a (.a (.a (.a (.a (.a (.a (.a (.a (.a (.a (.a (.a (.a (.a (.a (.a (.a (.a (.a (.a (.a (.a (.a (.a (.a (.a (.a (.a (.a (.a (.a (.a (.a (.a (.a (.a (.a (.a (.a (.a (.a (.a (.a (.a (.a (.a (.a (.a (.a (.a (.a (.a (.a (.a (.a (.a (.a (.a (.a (.a (.a (.a (.a (.a (.a (.a (.a (.a (.a (.a (.a (.a (.a (.a (.a (.a (.a (.a (.a (.a (.a (.a (.a (.a (.a (.a (.a (.a (.a (.a (.a (.a (.a (.a (.a (.a (.a (.a (.a (.m (.m (.n (-1)) (.m (.m (.v 5) (.v 5)) (.v 5))) (.m (.m (.m (.v 0) (.v 0)) (.v 0)) (.v 0))) (.m (.m (.n (-8)) (.m (.m (.m (.m (.v 4) (.v 4)) (.v 4)) (.v 4)) (.v 4))) (.m (.m (.v 2) (.v 2)) (.v 2)))) (.m (.m (.n (-6)) (.v 4)) (.m (.m (.m (.m (.v 2) (.v 2)) (.v 2)) (.v 2)) (.v 2)))) (.m (.m (.n 2) (.m (.m (.v 4) (.v 4)) (.v 4))) (.m (.m (.m (.v 1) (.v 1)) (.v 1)) (.v 1)))) (.m (.m (.n 2) (.m (.m (.m (.m (.v 4) (.v 4)) (.v 4)) (.v 4)) (.v 4))) (.m (.m (.v 1) (.v 1)) (.v 1)))) (.m (.m (.n 2) (.m (.m (.m (.m (.m (.m (.v 4) (.v 4)) (.v 4)) (.v 4)) (.v 4)) (.v 4)) (.v 4))) (.m (.m (.m (.v 5) (.v 5)) (.v 5)) (.v 5)))) (.m (.m (.n 3) (.v 5)) (.m (.m (.m (.m (.v 2) (.v 2)) (.v 2)) (.v 2)) (.v 2)))) (.m (.m (.n 22) (.m (.m (.v 4) (.v 4)) (.v 4))) (.m (.m (.m (.v 2) (.v 2)) (.v 2)) (.v 2)))) (.m (.m (.v 4) (.m (.v 5) (.v 5))) (.m (.m (.m (.v 1) (.v 1)) (.v 1)) (.v 1)))) (.m (.m (.v 5) (.v 2)) (.m (.m (.m (.m (.m (.m (.m (.v 4) (.v 4)) (.v 4)) (.v 4)) (.v 4)) (.v 4)) (.v 4)) (.v 4)))) (.m (.m (.v 0) (.m (.m (.v 5) (.v 5)) (.v 5))) (.m (.m (.v 1) (.v 1)) (.v 1)))) (.m (.m (.v 0) (.m (.m (.m (.m (.v 5) (.v 5)) (.v 5)) (.v 5)) (.v 5))) (.m (.v 1) (.v 1)))) (.m (.m (.v 2) (.m (.m (.m (.m (.v 5) (.v 5)) (.v 5)) (.v 5)) (.v 5))) (.m (.v 0) (.v 0)))) (.m (.m (.v 1) (.m (.m (.m (.m (.v 5) (.v 5)) (.v 5)) (.v 5)) (.v 5))) (.m (.v 2) (.v 2)))) (.m (.m (.m (.v 4) (.v 4)) (.m (.m (.m (.m (.v 5) (.v 5)) (.v 5)) (.v 5)) (.v 5))) (.m (.v 1) (.v 1)))) (.m (.m (.m (.n (-1)) (.v 4)) (.m (.v 5) (.v 5))) (.m (.m (.m (.v 0) (.v 0)) (.v 0)) (.v 0)))) (.m (.m (.m (.n (-1)) (.v 4)) (.m (.m (.m (.v 5) (.v 5)) (.v 5)) (.v 5))) (.m (.m (.v 0) (.v 0)) (.v 0)))) (.m (.m (.m (.n (-1)) (.v 4)) (.m (.m (.m (.v 5) (.v 5)) (.v 5)) (.v 5))) (.m (.m (.v 1) (.v 1)) (.v 1)))) (.m (.m (.m (.n (-1)) (.v 5)) (.v 1)) (.m (.m (.m (.m (.m (.m (.m (.v 4) (.v 4)) (.v 4)) (.v 4)) (.v 4)) (.v 4)) (.v 4)) (.v 4)))) (.m (.m (.m (.n (-1)) (.v 5)) (.m (.m (.m (.m (.m (.v 4) (.v 4)) (.v 4)) (.v 4)) (.v 4)) (.v 4))) (.m (.v 2) (.v 2)))) (.m (.m (.m (.n (-1)) (.v 5)) (.m (.m (.m (.m (.m (.v 4) (.v 4)) (.v 4)) (.v 4)) (.v 4)) (.v 4))) (.m (.v 1) (.v 1)))) (.m (.m (.m (.n (-1)) (.v 0)) (.m (.m (.v 4) (.v 4)) (.v 4))) (.m (.m (.v 1) (.v 1)) (.v 1)))) (.m (.m (.m (.n (-1)) (.v 2)) (.m (.m (.v 5) (.v 5)) (.v 5))) (.m (.m (.v 1) (.v 1)) (.v 1)))) (.m (.m (.m (.n (-1)) (.v 2)) (.m (.m (.m (.m (.v 5) (.v 5)) (.v 5)) (.v 5)) (.v 5))) (.m (.v 1) (.v 1)))) (.m (.m (.m (.n (-1)) (.v 1)) (.m (.m (.m (.m (.v 5) (.v 5)) (.v 5)) (.v 5)) (.v 5))) (.m (.v 0) (.v 0)))) (.m (.m (.m (.n (-15)) (.m (.m (.m (.v 4) (.v 4)) (.v 4)) (.v 4))) (.m (.m (.v 5) (.v 5)) (.v 5))) (.m (.v 2) (.v 2)))) (.m (.m (.m (.n (-13)) (.m (.m (.m (.v 4) (.v 4)) (.v 4)) (.v 4))) (.m (.m (.v 5) (.v 5)) (.v 5))) (.m (.v 1) (.v 1)))) (.m (.m (.m (.n (-10)) (.v 4)) (.m (.v 5) (.v 5))) (.m (.m (.m (.v 2) (.v 2)) (.v 2)) (.v 2)))) (.m (.m (.m (.n (-10)) (.v 2)) (.m (.m (.v 4) (.v 4)) (.v 4))) (.m (.m (.v 1) (.v 1)) (.v 1)))) (.m (.m (.m (.n (-9)) (.v 4)) (.v 0)) (.m (.m (.m (.v 2) (.v 2)) (.v 2)) (.v 2)))) (.m (.m (.m (.n (-9)) (.v 4)) (.v 2)) (.m (.m (.m (.v 1) (.v 1)) (.v 1)) (.v 1)))) (.m (.m (.m (.n (-8)) (.v 0)) (.m (.m (.v 5) (.v 5)) (.v 5))) (.m (.m (.v 2) (.v 2)) (.v 2)))) (.m (.m (.m (.n (-8)) (.m (.m (.v 5) (.v 5)) (.v 5))) (.m (.v 0) (.v 0))) (.m (.v 2) (.v 2)))) (.m (.m (.m (.n (-7)) (.v 5)) (.m (.v 4) (.v 4))) (.m (.m (.m (.v 2) (.v 2)) (.v 2)) (.v 2)))) (.m (.m (.m (.n (-6)) (.v 5)) (.v 1)) (.m (.m (.m (.v 2) (.v 2)) (.v 2)) (.v 2)))) (.m (.m (.m (.n (-6)) (.v 5)) (.m (.v 2) (.v 2))) (.m (.m (.v 1) (.v 1)) (.v 1)))) (.m (.m (.m (.n (-6)) (.v 2)) (.m (.m (.m (.m (.v 4) (.v 4)) (.v 4)) (.v 4)) (.v 4))) (.m (.v 1) (.v 1)))) (.m (.m (.m (.n (-6)) (.v 1)) (.m (.m (.m (.m (.v 4) (.v 4)) (.v 4)) (.v 4)) (.v 4))) (.m (.v 2) (.v 2)))) (.m (.m (.m (.n (-6)) (.v 3)) (.m (.v 4) (.v 4))) (.m (.m (.v 2) (.v 2)) (.v 2)))) (.m (.m (.m (.n (-6)) (.m (.v 4) (.v 4))) (.m (.m (.v 5) (.v 5)) (.v 5))) (.m (.m (.v 1) (.v 1)) (.v 1)))) (.m (.m (.m (.n (-6)) (.m (.m (.m (.m (.v 4) (.v 4)) (.v 4)) (.v 4)) (.v 4))) (.m (.v 5) (.v 5))) (.m (.v 1) (.v 1)))) (.m (.m (.m (.n (-5)) (.v 0)) (.m (.m (.m (.m (.v 4) (.v 4)) (.v 4)) (.v 4)) (.v 4))) (.m (.m (.m (.v 5) (.v 5)) (.v 5)) (.v 5)))) (.m (.m (.m (.n (-5)) (.v 1)) (.m (.m (.m (.m (.m (.v 4) (.v 4)) (.v 4)) (.v 4)) (.v 4)) (.v 4))) (.m (.m (.v 5) (.v 5)) (.v 5)))) (.m (.m (.m (.n (-5)) (.v 1)) (.m (.m (.m (.m (.m (.m (.v 4) (.v 4)) (.v 4)) (.v 4)) (.v 4)) (.v 4)) (.v 4))) (.m (.v 5) (.v 5)))) (.m (.m (.m (.n (-5)) (.m (.m (.m (.v 4) (.v 4)) (.v 4)) (.v 4))) (.m (.m (.v 5) (.v 5)) (.v 5))) (.m (.v 0) (.v 0)))) (.m (.m (.m (.n (-5)) (.m (.m (.m (.m (.v 4) (.v 4)) (.v 4)) (.v 4)) (.v 4))) (.m (.v 5) (.v 5))) (.m (.v 0) (.v 0)))) (.m (.m (.m (.n (-4)) (.v 2)) (.m (.m (.m (.m (.v 4) (.v 4)) (.v 4)) (.v 4)) (.v 4))) (.m (.m (.m (.v 5) (.v 5)) (.v 5)) (.v 5)))) (.m (.m (.m (.n (-4)) (.v 2)) (.m (.m (.v 5) (.v 5)) (.v 5))) (.m (.m (.v 0) (.v 0)) (.v 0)))) (.m (.m (.m (.n (-4)) (.v 1)) (.m (.m (.v 5) (.v 5)) (.v 5))) (.m (.m (.v 2) (.v 2)) (.v 2)))) (.m (.m (.m (.n (-4)) (.v 3)) (.m (.m (.m (.m (.v 4) (.v 4)) (.v 4)) (.v 4)) (.v 4))) (.m (.m (.v 5) (.v 5)) (.v 5)))) (.m (.m (.m (.n (-4)) (.v 3)) (.m (.m (.m (.m (.m (.v 4) (.v 4)) (.v 4)) (.v 4)) (.v 4)) (.v 4))) (.m (.v 5) (.v 5)))) (.m (.m (.m (.n (-4)) (.m (.v 4) (.v 4))) (.m (.m (.v 5) (.v 5)) (.v 5))) (.m (.v 3) (.v 3)))) (.m (.m (.m (.n (-4)) (.m (.m (.v 4) (.v 4)) (.v 4))) (.m (.v 5) (.v 5))) (.m (.v 3) (.v 3)))) (.m (.m (.m (.n (-3)) (.v 4)) (.m (.v 0) (.v 0))) (.m (.m (.v 2) (.v 2)) (.v 2)))) (.m (.m (.m (.n (-3)) (.v 4)) (.m (.m (.v 2) (.v 2)) (.v 2))) (.m (.v 1) (.v 1)))) (.m (.m (.m (.n (-3)) (.v 2)) (.m (.m (.m (.m (.m (.m (.v 4) (.v 4)) (.v 4)) (.v 4)) (.v 4)) (.v 4)) (.v 4))) (.m (.v 5) (.v 5)))) (.m (.m (.m (.n (-3)) (.v 1)) (.m (.m (.m (.m (.v 4) (.v 4)) (.v 4)) (.v 4)) (.v 4))) (.m (.m (.m (.v 5) (.v 5)) (.v 5)) (.v 5)))) (.m (.m (.m (.n (-3)) (.m (.m (.v 4) (.v 4)) (.v 4))) (.m (.m (.m (.v 5) (.v 5)) (.v 5)) (.v 5))) (.m (.v 1) (.v 1)))) (.m (.m (.m (.n (-2)) (.m (.v 4) (.v 4))) (.m (.m (.m (.m (.v 5) (.v 5)) (.v 5)) (.v 5)) (.v 5))) (.m (.v 2) (.v 2)))) (.m (.m (.m (.n (-2)) (.m (.m (.v 4) (.v 4)) (.v 4))) (.m (.v 5) (.v 5))) (.m (.m (.v 1) (.v 1)) (.v 1)))) (.m (.m (.m (.n (-2)) (.m (.m (.v 4) (.v 4)) (.v 4))) (.m (.m (.m (.v 5) (.v 5)) (.v 5)) (.v 5))) (.m (.v 2) (.v 2)))) (.m (.m (.m (.n (-2)) (.m (.m (.v 5) (.v 5)) (.v 5))) (.m (.v 0) (.v 0))) (.m (.v 1) (.v 1)))) (.m (.m (.m (.n 2) (.v 4)) (.m (.m (.m (.v 5) (.v 5)) (.v 5)) (.v 5))) (.m (.m (.v 2) (.v 2)) (.v 2)))) (.m (.m (.m (.n 2) (.v 0)) (.m (.m (.m (.m (.m (.v 4) (.v 4)) (.v 4)) (.v 4)) (.v 4)) (.v 4))) (.m (.m (.v 5) (.v 5)) (.v 5)))) (.m (.m (.m (.n 2) (.v 0)) (.m (.m (.m (.m (.m (.m (.v 4) (.v 4)) (.v 4)) (.v 4)) (.v 4)) (.v 4)) (.v 4))) (.m (.v 5) (.v 5)))) (.m (.m (.m (.n 2) (.v 0)) (.m (.m (.m (.m (.v 5) (.v 5)) (.v 5)) (.v 5)) (.v 5))) (.m (.v 2) (.v 2)))) (.m (.m (.m (.n 2) (.v 1)) (.m (.m (.v 5) (.v 5)) (.v 5))) (.m (.m (.v 0) (.v 0)) (.v 0)))) (.m (.m (.m (.n 3) (.v 4)) (.m (.v 2) (.v 2))) (.m (.m (.v 1) (.v 1)) (.v 1)))) (.m (.m (.m (.n 3) (.v 5)) (.v 2)) (.m (.m (.m (.v 0) (.v 0)) (.v 0)) (.v 0)))) (.m (.m (.m (.n 3) (.v 5)) (.v 2)) (.m (.m (.m (.v 1) (.v 1)) (.v 1)) (.v 1)))) (.m (.m (.m (.n 3) (.v 2)) (.m (.m (.m (.m (.m (.v 4) (.v 4)) (.v 4)) (.v 4)) (.v 4)) (.v 4))) (.m (.m (.v 5) (.v 5)) (.v 5)))) (.m (.m (.m (.n 3) (.m (.m (.m (.m (.v 4) (.v 4)) (.v 4)) (.v 4)) (.v 4))) (.m (.v 5) (.v 5))) (.m (.v 2) (.v 2)))) (.m (.m (.m (.n 4) (.v 5)) (.m (.v 4) (.v 4))) (.m (.m (.m (.v 1) (.v 1)) (.v 1)) (.v 1)))) (.m (.m (.m (.n 4) (.m (.v 4) (.v 4))) (.m (.m (.v 5) (.v 5)) (.v 5))) (.m (.m (.v 0) (.v 0)) (.v 0)))) (.m (.m (.m (.n 4) (.m (.m (.v 4) (.v 4)) (.v 4))) (.m (.v 5) (.v 5))) (.m (.m (.v 0) (.v 0)) (.v 0)))) (.m (.m (.m (.n 4) (.m (.m (.v 4) (.v 4)) (.v 4))) (.m (.m (.m (.v 5) (.v 5)) (.v 5)) (.v 5))) (.m (.v 0) (.v 0)))) (.m (.m (.m (.n 4) (.m (.m (.v 5) (.v 5)) (.v 5))) (.m (.v 2) (.v 2))) (.m (.v 1) (.v 1)))) (.m (.m (.m (.n 6) (.v 4)) (.v 1)) (.m (.m (.m (.v 2) (.v 2)) (.v 2)) (.v 2)))) (.m (.m (.m (.n 6) (.v 3)) (.m (.m (.m (.v 4) (.v 4)) (.v 4)) (.v 4))) (.m (.m (.m (.v 5) (.v 5)) (.v 5)) (.v 5)))) (.m (.m (.m (.n 7) (.v 5)) (.m (.m (.m (.v 4) (.v 4)) (.v 4)) (.v 4))) (.m (.m (.v 1) (.v 1)) (.v 1)))) (.m (.m (.m (.n 9) (.v 5)) (.m (.m (.v 2) (.v 2)) (.v 2))) (.m (.v 1) (.v 1)))) (.m (.m (.m (.n 10) (.v 0)) (.m (.m (.v 4) (.v 4)) (.v 4))) (.m (.m (.v 2) (.v 2)) (.v 2)))) (.m (.m (.m (.n 10) (.v 1)) (.m (.m (.v 4) (.v 4)) (.v 4))) (.m (.m (.v 2) (.v 2)) (.v 2)))) (.m (.m (.m (.n 12) (.v 5)) (.v 0)) (.m (.m (.m (.v 2) (.v 2)) (.v 2)) (.v 2)))) (.m (.m (.m (.n 12) (.v 5)) (.m (.m (.v 0) (.v 0)) (.v 0))) (.m (.v 2) (.v 2)))) (.m (.m (.m (.n 12) (.m (.v 4) (.v 4))) (.m (.m (.v 5) (.v 5)) (.v 5))) (.m (.m (.v 2) (.v 2)) (.v 2)))) (.m (.m (.m (.n 12) (.m (.m (.v 4) (.v 4)) (.v 4))) (.m (.v 2) (.v 2))) (.m (.v 1) (.v 1)))) (.m (.m (.m (.n 14) (.m (.m (.v 4) (.v 4)) (.v 4))) (.m (.v 5) (.v 5))) (.m (.m (.v 2) (.v 2)) (.v 2)))) (.m (.m (.m (.n 18) (.v 5)) (.m (.v 0) (.v 0))) (.m (.m (.v 2) (.v 2)) (.v 2)))) (.m (.m (.m (.v 5) (.v 1)) (.m (.v 4) (.v 4))) (.m (.m (.v 0) (.v 0)) (.v 0)))) (.m (.m (.m (.v 0) (.m (.m (.v 4) (.v 4)) (.v 4))) (.m (.v 5) (.v 5))) (.m (.v 2) (.v 2)))) (.m (.m (.m (.v 2) (.v 1)) (.m (.v 4) (.v 4))) (.m (.m (.m (.m (.v 5) (.v 5)) (.v 5)) (.v 5)) (.v 5)))) (.m (.m (.m (.m (.n (-1)) (.v 4)) (.m (.v 5) (.v 5))) (.m (.v 0) (.v 0))) (.m (.v 2) (.v 2)))) (.m (.m (.m (.m (.n (-1)) (.v 5)) (.m (.v 4) (.v 4))) (.m (.v 0) (.v 0))) (.m (.v 1) (.v 1)))) (.m (.m (.m (.m (.n (-1)) (.v 0)) (.v 2)) (.m (.m (.m (.m (.v 4) (.v 4)) (.v 4)) (.v 4)) (.v 4))) (.m (.v 5) (.v 5)))) (.m (.m (.m (.m (.n (-67)) (.v 1)) (.m (.m (.v 4) (.v 4)) (.v 4))) (.m (.v 5) (.v 5))) (.m (.v 2) (.v 2)))) (.m (.m (.m (.m (.n (-42)) (.v 5)) (.v 3)) (.m (.m (.v 4) (.v 4)) (.v 4))) (.m (.v 2) (.v 2)))) (.m (.m (.m (.m (.n (-37)) (.v 5)) (.m (.v 4) (.v 4))) (.m (.v 0) (.v 0))) (.m (.v 2) (.v 2)))) (.m (.m (.m (.m (.n (-31)) (.v 4)) (.m (.v 5) (.v 5))) (.m (.v 2) (.v 2))) (.m (.v 1) (.v 1)))) (.m (.m (.m (.m (.n (-29)) (.v 5)) (.v 0)) (.m (.v 4) (.v 4))) (.m (.m (.v 2) (.v 2)) (.v 2)))) (.m (.m (.m (.m (.n (-28)) (.v 5)) (.m (.v 4) (.v 4))) (.m (.v 2) (.v 2))) (.m (.v 1) (.v 1)))) (.m (.m (.m (.m (.n (-18)) (.v 5)) (.v 0)) (.v 1)) (.m (.m (.v 2) (.v 2)) (.v 2)))) (.m (.m (.m (.m (.n (-18)) (.v 5)) (.v 1)) (.m (.v 0) (.v 0))) (.m (.v 2) (.v 2)))) (.m (.m (.m (.m (.n (-18)) (.v 1)) (.v 3)) (.m (.m (.m (.v 4) (.v 4)) (.v 4)) (.v 4))) (.m (.v 5) (.v 5)))) (.m (.m (.m (.m (.n (-13)) (.v 5)) (.v 2)) (.m (.v 4) (.v 4))) (.m (.m (.v 0) (.v 0)) (.v 0)))) (.m (.m (.m (.m (.n (-13)) (.v 1)) (.m (.m (.v 4) (.v 4)) (.v 4))) (.m (.v 5) (.v 5))) (.m (.v 0) (.v 0)))) (.m (.m (.m (.m (.n (-11)) (.v 0)) (.v 2)) (.m (.m (.m (.v 4) (.v 4)) (.v 4)) (.v 4))) (.m (.m (.v 5) (.v 5)) (.v 5)))) (.m (.m (.m (.m (.n (-11)) (.v 1)) (.m (.v 4) (.v 4))) (.m (.m (.v 5) (.v 5)) (.v 5))) (.m (.v 2) (.v 2)))) (.m (.m (.m (.m (.n (-9)) (.v 4)) (.v 1)) (.m (.m (.m (.v 5) (.v 5)) (.v 5)) (.v 5))) (.m (.v 2) (.v 2)))) (.m (.m (.m (.m (.n (-9)) (.v 5)) (.v 0)) (.v 2)) (.m (.m (.m (.m (.m (.v 4) (.v 4)) (.v 4)) (.v 4)) (.v 4)) (.v 4)))) (.m (.m (.m (.m (.n (-8)) (.v 4)) (.v 3)) (.m (.m (.v 5) (.v 5)) (.v 5))) (.m (.v 2) (.v 2)))) (.m (.m (.m (.m (.n (-8)) (.v 1)) (.v 3)) (.m (.m (.v 4) (.v 4)) (.v 4))) (.m (.m (.v 5) (.v 5)) (.v 5)))) (.m (.m (.m (.m (.n (-8)) (.v 3)) (.m (.v 4) (.v 4))) (.m (.v 5) (.v 5))) (.m (.v 1) (.v 1)))) (.m (.m (.m (.m (.n (-6)) (.v 5)) (.v 0)) (.v 2)) (.m (.m (.v 1) (.v 1)) (.v 1)))) (.m (.m (.m (.m (.n (-6)) (.v 5)) (.v 2)) (.v 1)) (.m (.m (.v 0) (.v 0)) (.v 0)))) (.m (.m (.m (.m (.n (-6)) (.v 2)) (.v 3)) (.m (.v 4) (.v 4))) (.m (.v 1) (.v 1)))) (.m (.m (.m (.m (.n (-6)) (.v 1)) (.v 3)) (.m (.v 4) (.v 4))) (.m (.v 2) (.v 2)))) (.m (.m (.m (.m (.n (-6)) (.v 1)) (.m (.v 4) (.v 4))) (.m (.m (.v 5) (.v 5)) (.v 5))) (.m (.v 0) (.v 0)))) (.m (.m (.m (.m (.n (-5)) (.v 4)) (.v 0)) (.m (.v 5) (.v 5))) (.m (.m (.v 2) (.v 2)) (.v 2)))) (.m (.m (.m (.m (.n (-5)) (.v 5)) (.v 1)) (.m (.m (.m (.v 4) (.v 4)) (.v 4)) (.v 4))) (.m (.v 2) (.v 2)))) (.m (.m (.m (.m (.n (-5)) (.v 0)) (.v 2)) (.m (.m (.v 5) (.v 5)) (.v 5))) (.m (.v 1) (.v 1)))) (.m (.m (.m (.m (.n (-4)) (.v 4)) (.v 3)) (.m (.m (.v 5) (.v 5)) (.v 5))) (.m (.v 1) (.v 1)))) (.m (.m (.m (.m (.n (-4)) (.v 4)) (.m (.v 5) (.v 5))) (.m (.v 0) (.v 0))) (.m (.v 1) (.v 1)))) (.m (.m (.m (.m (.n (-4)) (.v 5)) (.v 1)) (.v 3)) (.m (.m (.m (.m (.v 4) (.v 4)) (.v 4)) (.v 4)) (.v 4)))) (.m (.m (.m (.m (.n (-4)) (.v 2)) (.v 3)) (.m (.v 4) (.v 4))) (.m (.m (.m (.v 5) (.v 5)) (.v 5)) (.v 5)))) (.m (.m (.m (.m (.n (-3)) (.v 4)) (.v 0)) (.v 1)) (.m (.m (.v 2) (.v 2)) (.v 2)))) (.m (.m (.m (.m (.n (-3)) (.v 4)) (.v 0)) (.m (.v 2) (.v 2))) (.m (.v 1) (.v 1)))) (.m (.m (.m (.m (.n (-3)) (.v 4)) (.v 2)) (.m (.v 5) (.v 5))) (.m (.m (.v 0) (.v 0)) (.v 0)))) (.m (.m (.m (.m (.n (-3)) (.v 4)) (.v 2)) (.m (.m (.m (.v 5) (.v 5)) (.v 5)) (.v 5))) (.m (.v 0) (.v 0)))) (.m (.m (.m (.m (.n (-3)) (.v 4)) (.v 2)) (.m (.v 0) (.v 0))) (.m (.v 1) (.v 1)))) (.m (.m (.m (.m (.n (-3)) (.v 4)) (.v 1)) (.m (.v 0) (.v 0))) (.m (.v 2) (.v 2)))) (.m (.m (.m (.m (.n (-3)) (.v 5)) (.v 1)) (.m (.m (.m (.v 4) (.v 4)) (.v 4)) (.v 4))) (.m (.v 0) (.v 0)))) (.m (.m (.m (.m (.n (-3)) (.v 0)) (.v 2)) (.v 1)) (.m (.m (.m (.m (.v 5) (.v 5)) (.v 5)) (.v 5)) (.v 5)))) (.m (.m (.m (.m (.n (-3)) (.v 0)) (.v 2)) (.m (.v 4) (.v 4))) (.m (.m (.m (.m (.v 5) (.v 5)) (.v 5)) (.v 5)) (.v 5)))) (.m (.m (.m (.m (.n (-2)) (.v 4)) (.v 1)) (.v 3)) (.m (.m (.m (.m (.v 5) (.v 5)) (.v 5)) (.v 5)) (.v 5)))) (.m (.m (.m (.m (.n (-2)) (.v 4)) (.v 3)) (.m (.m (.v 5) (.v 5)) (.v 5))) (.m (.v 0) (.v 0)))) (.m (.m (.m (.m (.n (-2)) (.v 5)) (.v 0)) (.m (.v 4) (.v 4))) (.m (.m (.v 1) (.v 1)) (.v 1)))) (.m (.m (.m (.m (.n (-2)) (.v 5)) (.v 3)) (.m (.m (.v 4) (.v 4)) (.v 4))) (.m (.v 1) (.v 1)))) (.m (.m (.m (.m (.n (-2)) (.v 0)) (.v 3)) (.m (.v 4) (.v 4))) (.m (.m (.m (.v 5) (.v 5)) (.v 5)) (.v 5)))) (.m (.m (.m (.m (.n (-2)) (.v 3)) (.m (.v 4) (.v 4))) (.m (.v 5) (.v 5))) (.m (.v 0) (.v 0)))) (.m (.m (.m (.m (.n 2) (.v 4)) (.v 0)) (.m (.v 5) (.v 5))) (.m (.m (.v 1) (.v 1)) (.v 1)))) (.m (.m (.m (.m (.n 2) (.v 4)) (.v 2)) (.v 3)) (.m (.m (.m (.m (.v 5) (.v 5)) (.v 5)) (.v 5)) (.v 5)))) (.m (.m (.m (.m (.n 2) (.v 5)) (.v 0)) (.m (.m (.m (.v 4) (.v 4)) (.v 4)) (.v 4))) (.m (.v 1) (.v 1)))) (.m (.m (.m (.m (.n 3) (.v 4)) (.v 0)) (.m (.m (.m (.v 5) (.v 5)) (.v 5)) (.v 5))) (.m (.v 1) (.v 1)))) (.m (.m (.m (.m (.n 3) (.v 5)) (.v 0)) (.v 1)) (.m (.m (.m (.m (.m (.v 4) (.v 4)) (.v 4)) (.v 4)) (.v 4)) (.v 4)))) (.m (.m (.m (.m (.n 3) (.v 0)) (.v 1)) (.m (.v 4) (.v 4))) (.m (.m (.m (.m (.v 5) (.v 5)) (.v 5)) (.v 5)) (.v 5)))) (.m (.m (.m (.m (.n 3) (.v 0)) (.v 1)) (.m (.m (.v 4) (.v 4)) (.v 4))) (.m (.m (.m (.v 5) (.v 5)) (.v 5)) (.v 5)))) (.m (.m (.m (.m (.n 4) (.v 4)) (.v 1)) (.m (.v 5) (.v 5))) (.m (.m (.v 0) (.v 0)) (.v 0)))) (.m (.m (.m (.m (.n 4) (.v 3)) (.m (.v 4) (.v 4))) (.m (.v 5) (.v 5))) (.m (.v 2) (.v 2)))) (.m (.m (.m (.m (.n 6) (.v 4)) (.v 0)) (.v 2)) (.m (.m (.v 1) (.v 1)) (.v 1)))) (.m (.m (.m (.m (.n 6) (.v 4)) (.v 2)) (.m (.m (.m (.v 5) (.v 5)) (.v 5)) (.v 5))) (.m (.v 1) (.v 1)))) (.m (.m (.m (.m (.n 6) (.v 0)) (.v 3)) (.m (.m (.v 4) (.v 4)) (.v 4))) (.m (.m (.v 5) (.v 5)) (.v 5)))) (.m (.m (.m (.m (.n 6) (.v 0)) (.v 3)) (.m (.m (.m (.v 4) (.v 4)) (.v 4)) (.v 4))) (.m (.v 5) (.v 5)))) (.m (.m (.m (.m (.n 6) (.v 2)) (.v 3)) (.m (.m (.m (.v 4) (.v 4)) (.v 4)) (.v 4))) (.m (.v 5) (.v 5)))) (.m (.m (.m (.m (.n 7) (.v 5)) (.v 2)) (.m (.v 4) (.v 4))) (.m (.m (.v 1) (.v 1)) (.v 1)))) (.m (.m (.m (.m (.n 7) (.v 0)) (.v 2)) (.m (.m (.v 4) (.v 4)) (.v 4))) (.m (.m (.m (.v 5) (.v 5)) (.v 5)) (.v 5)))) (.m (.m (.m (.m (.n 7) (.v 2)) (.v 1)) (.m (.m (.v 5) (.v 5)) (.v 5))) (.m (.v 0) (.v 0)))) (.m (.m (.m (.m (.n 7) (.v 2)) (.m (.m (.v 4) (.v 4)) (.v 4))) (.m (.v 5) (.v 5))) (.m (.v 0) (.v 0)))) (.m (.m (.m (.m (.n 8) (.v 5)) (.v 2)) (.v 1)) (.m (.m (.m (.m (.m (.v 4) (.v 4)) (.v 4)) (.v 4)) (.v 4)) (.v 4)))) (.m (.m (.m (.m (.n 8) (.v 0)) (.m (.v 4) (.v 4))) (.m (.m (.v 5) (.v 5)) (.v 5))) (.m (.v 1) (.v 1)))) (.m (.m (.m (.m (.n 9) (.v 4)) (.v 2)) (.m (.v 5) (.v 5))) (.m (.m (.v 1) (.v 1)) (.v 1)))) (.m (.m (.m (.m (.n 9) (.v 5)) (.v 2)) (.m (.v 0) (.v 0))) (.m (.v 1) (.v 1)))) (.m (.m (.m (.m (.n 9) (.v 0)) (.v 2)) (.m (.m (.v 4) (.v 4)) (.v 4))) (.m (.v 1) (.v 1)))) (.m (.m (.m (.m (.n 9) (.v 0)) (.v 1)) (.m (.m (.v 4) (.v 4)) (.v 4))) (.m (.v 2) (.v 2)))) (.m (.m (.m (.m (.n 9) (.v 0)) (.v 1)) (.m (.m (.m (.v 4) (.v 4)) (.v 4)) (.v 4))) (.m (.m (.v 5) (.v 5)) (.v 5)))) (.m (.m (.m (.m (.n 9) (.v 0)) (.m (.m (.v 4) (.v 4)) (.v 4))) (.m (.v 5) (.v 5))) (.m (.v 1) (.v 1)))) (.m (.m (.m (.m (.n 10) (.v 0)) (.v 1)) (.m (.m (.v 5) (.v 5)) (.v 5))) (.m (.v 2) (.v 2)))) (.m (.m (.m (.m (.n 12) (.v 4)) (.v 5)) (.v 3)) (.m (.m (.v 2) (.v 2)) (.v 2)))) (.m (.m (.m (.m (.n 12) (.v 5)) (.v 2)) (.m (.v 4) (.v 4))) (.m (.v 3) (.v 3)))) (.m (.m (.m (.m (.n 12) (.v 2)) (.v 1)) (.m (.m (.v 4) (.v 4)) (.v 4))) (.m (.m (.m (.v 5) (.v 5)) (.v 5)) (.v 5)))) (.m (.m (.m (.m (.n 12) (.v 2)) (.m (.v 4) (.v 4))) (.m (.m (.v 5) (.v 5)) (.v 5))) (.m (.v 0) (.v 0)))) (.m (.m (.m (.m (.n 13) (.v 2)) (.m (.v 4) (.v 4))) (.m (.m (.v 5) (.v 5)) (.v 5))) (.m (.v 1) (.v 1)))) (.m (.m (.m (.m (.n 14) (.v 0)) (.v 1)) (.m (.m (.m (.m (.v 4) (.v 4)) (.v 4)) (.v 4)) (.v 4))) (.m (.v 5) (.v 5)))) (.m (.m (.m (.m (.n 14) (.v 2)) (.v 3)) (.m (.m (.v 4) (.v 4)) (.v 4))) (.m (.m (.v 5) (.v 5)) (.v 5)))) (.m (.m (.m (.m (.n 16) (.v 5)) (.v 2)) (.v 3)) (.m (.m (.m (.m (.v 4) (.v 4)) (.v 4)) (.v 4)) (.v 4)))) (.m (.m (.m (.m (.n 18) (.v 5)) (.v 0)) (.m (.v 2) (.v 2))) (.m (.v 1) (.v 1)))) (.m (.m (.m (.m (.n 18) (.v 5)) (.v 2)) (.m (.m (.m (.v 4) (.v 4)) (.v 4)) (.v 4))) (.m (.v 0) (.v 0)))) (.m (.m (.m (.m (.n 20) (.v 0)) (.m (.v 4) (.v 4))) (.m (.m (.v 5) (.v 5)) (.v 5))) (.m (.v 2) (.v 2)))) (.m (.m (.m (.m (.n 20) (.v 2)) (.v 1)) (.m (.m (.m (.v 4) (.v 4)) (.v 4)) (.v 4))) (.m (.m (.v 5) (.v 5)) (.v 5)))) (.m (.m (.m (.m (.n 22) (.v 5)) (.v 2)) (.m (.m (.m (.v 4) (.v 4)) (.v 4)) (.v 4))) (.m (.v 1) (.v 1)))) (.m (.m (.m (.m (.n 26) (.v 5)) (.v 0)) (.m (.m (.m (.v 4) (.v 4)) (.v 4)) (.v 4))) (.m (.v 2) (.v 2)))) (.m (.m (.m (.m (.n 27) (.v 2)) (.m (.m (.v 4) (.v 4)) (.v 4))) (.m (.v 5) (.v 5))) (.m (.v 1) (.v 1)))) (.m (.m (.m (.m (.n 31) (.v 2)) (.v 1)) (.m (.m (.m (.m (.v 4) (.v 4)) (.v 4)) (.v 4)) (.v 4))) (.m (.v 5) (.v 5)))) (.m (.m (.m (.m (.n 39) (.v 4)) (.v 1)) (.m (.v 5) (.v 5))) (.m (.m (.v 2) (.v 2)) (.v 2)))) (.m (.m (.m (.m (.m (.n (-43)) (.v 0)) (.v 2)) (.v 1)) (.m (.m (.v 4) (.v 4)) (.v 4))) (.m (.v 5) (.v 5)))) (.m (.m (.m (.m (.m (.n (-25)) (.v 5)) (.v 0)) (.v 2)) (.m (.v 4) (.v 4))) (.m (.v 1) (.v 1)))) (.m (.m (.m (.m (.m (.n (-24)) (.v 4)) (.v 5)) (.v 1)) (.v 3)) (.m (.v 2) (.v 2)))) (.m (.m (.m (.m (.m (.n (-22)) (.v 5)) (.v 0)) (.v 2)) (.v 1)) (.m (.m (.m (.v 4) (.v 4)) (.v 4)) (.v 4)))) (.m (.m (.m (.m (.m (.n (-20)) (.v 5)) (.v 0)) (.v 2)) (.v 3)) (.m (.m (.v 4) (.v 4)) (.v 4)))) (.m (.m (.m (.m (.m (.n (-19)) (.v 4)) (.v 0)) (.v 2)) (.m (.v 5) (.v 5))) (.m (.v 1) (.v 1)))) (.m (.m (.m (.m (.m (.n (-19)) (.v 0)) (.v 2)) (.v 1)) (.m (.v 4) (.v 4))) (.m (.m (.v 5) (.v 5)) (.v 5)))) (.m (.m (.m (.m (.m (.n (-6)) (.v 4)) (.v 0)) (.v 2)) (.v 1)) (.m (.m (.m (.v 5) (.v 5)) (.v 5)) (.v 5)))) (.m (.m (.m (.m (.m (.n (-6)) (.v 4)) (.v 0)) (.v 2)) (.v 3)) (.m (.m (.v 5) (.v 5)) (.v 5)))) (.m (.m (.m (.m (.m (.n (-4)) (.v 0)) (.v 2)) (.v 3)) (.m (.v 4) (.v 4))) (.m (.v 5) (.v 5)))) (.m (.m (.m (.m (.m (.n 2) (.v 5)) (.v 0)) (.v 1)) (.v 3)) (.m (.m (.v 4) (.v 4)) (.v 4)))) (.m (.m (.m (.m (.m (.n 4) (.v 4)) (.v 0)) (.v 1)) (.v 3)) (.m (.m (.v 5) (.v 5)) (.v 5)))) (.m (.m (.m (.m (.m (.n 6) (.v 4)) (.v 5)) (.v 2)) (.v 3)) (.m (.v 0) (.v 0)))) (.m (.m (.m (.m (.m (.n 8) (.v 0)) (.v 1)) (.v 3)) (.m (.v 4) (.v 4))) (.m (.v 5) (.v 5)))) (.m (.m (.m (.m (.m (.n 10) (.v 4)) (.v 2)) (.v 1)) (.v 3)) (.m (.m (.v 5) (.v 5)) (.v 5)))) (.m (.m (.m (.m (.m (.n 14) (.v 4)) (.v 2)) (.v 1)) (.m (.v 5) (.v 5))) (.m (.v 0) (.v 0)))) (.m (.m (.m (.m (.m (.n 18) (.v 4)) (.v 5)) (.v 0)) (.v 3)) (.m (.v 2) (.v 2)))) (.m (.m (.m (.m (.m (.n 18) (.v 4)) (.v 5)) (.v 2)) (.v 3)) (.m (.v 1) (.v 1)))) (.m (.m (.m (.m (.m (.n 20) (.v 5)) (.v 2)) (.v 1)) (.m (.v 4) (.v 4))) (.m (.v 0) (.v 0)))) (.m (.m (.m (.m (.m (.n 20) (.v 2)) (.v 1)) (.v 3)) (.m (.v 4) (.v 4))) (.m (.v 5) (.v 5)))) (.m (.m (.m (.m (.m (.n 26) (.v 5)) (.v 2)) (.v 1)) (.v 3)) (.m (.m (.v 4) (.v 4)) (.v 4)))) (.m (.m (.m (.m (.m (.n 29) (.v 5)) (.v 0)) (.v 1)) (.m (.v 4) (.v 4))) (.m (.v 2) (.v 2)))) (.m (.m (.m (.m (.m (.n 32) (.v 4)) (.v 0)) (.v 1)) (.m (.v 5) (.v 5))) (.m (.v 2) (.v 2)))) (.m (.m (.m (.m (.m (.m (.n (-12)) (.v 4)) (.v 5)) (.v 0)) (.v 2)) (.v 1)) (.v 3)))
def Qytt : Ex := (.a (.a (.a (.a (.a (.a (.a (.a (.a (.a (.a (.a (.a (.a (.a (.a (.a (.a (.a (.a (.a (.a (.a (.a (.a (.a (.a (.a (.a (.a (.a (.a (.a (.a (.a (.a (.a (.a (.a (.a (.a (.a (.a (.a (.a (.a (.a (.a (.a (.a (.a (.a (.a (.a (.a (.a (.a (.a (.a (.a (.a (.a (.a (.a (.a (.a (.a (.a (.a (.a (.a (.a (.a (.a (.a (.a (.a (.a (.a (.a (.a (.a (.a (.a (.a (.a (.a (.a (.a (.a (.a (.a (.a (.a (.a (.a (.a (.a (.a (.a (.a (.a (.a (.a (.a (.a (.a (.a (.a (.a (.a (.a (.a (.a (.a (.a (.a (.a (.a (.a (.a (.a (.a (.a (.a (.a (.a (.a (.a (.a (.a (.a (.a (.a (.a (.a (.a (.a (.a (.a (.a (.m (.v 1) (.m (.m (.m (.m (.m (.m (.m (.m (.v 4) (.v 4)) (.v 4)) (.v 4)) (.v 4)) (.v 4)) (.v 4)) (.v 4)) (.v 4))) (.m (.m (.m (.v 4) (.v 4)) (.v 4)) (.m (.m (.m (.v 1) (.v 1)) (.v 1)) (.v 1)))) (.m (.m (.n (-1)) (.v 2)) (.m (.m (.m (.m (.m (.m (.m (.m (.v 4) (.v 4)) (.v 4)) (.v 4)) (.v 4)) (.v 4)) (.v 4)) (.v 4)) (.v 4)))) (.m (.m (.n (-17)) (.m (.m (.m (.m (.v 4) (.v 4)) (.v 4)) (.v 4)) (.v 4))) (.m (.m (.v 2) (.v 2)) (.v 2)))) (.m (.m (.n (-13)) (.m (.m (.v 4) (.v 4)) (.v 4))) (.m (.m (.m (.v 2) (.v 2)) (.v 2)) (.v 2)))) (.m (.m (.n (-2)) (.m (.m (.m (.m (.m (.m (.m (.v 4) (.v 4)) (.v 4)) (.v 4)) (.v 4)) (.v 4)) (.v 4)) (.v 4))) (.m (.m (.v 5) (.v 5)) (.v 5)))) (.m (.m (.n 2) (.m (.m (.m (.m (.v 4) (.v 4)) (.v 4)) (.v 4)) (.v 4))) (.m (.m (.v 1) (.v 1)) (.v 1)))) (.m (.m (.n 3) (.v 4)) (.m (.m (.m (.m (.v 2) (.v 2)) (.v 2)) (.v 2)) (.v 2)))) (.m (.m (.n 3) (.m (.m (.m (.m (.m (.m (.v 4) (.v 4)) (.v 4)) (.v 4)) (.v 4)) (.v 4)) (.v 4))) (.m (.v 1) (.v 1)))) (.m (.m (.n 11) (.m (.m (.m (.m (.m (.m (.v 4) (.v 4)) (.v 4)) (.v 4)) (.v 4)) (.v 4)) (.v 4))) (.m (.v 2) (.v 2)))) (.m (.m (.v 4) (.m (.m (.m (.v 5) (.v 5)) (.v 5)) (.v 5))) (.m (.m (.v 2) (.v 2)) (.v 2)))) (.m (.m (.v 5) (.v 2)) (.m (.m (.m (.m (.m (.m (.m (.v 4) (.v 4)) (.v 4)) (.v 4)) (.v 4)) (.v 4)) (.v 4)) (.v 4)))) (.m (.m (.v 5) (.m (.v 4) (.v 4))) (.m (.m (.m (.v 1) (.v 1)) (.v 1)) (.v 1)))) (.m (.m (.v 0) (.v 2)) (.m (.m (.m (.m (.m (.m (.v 4) (.v 4)) (.v 4)) (.v 4)) (.v 4)) (.v 4)) (.v 4)))) (.m (.m (.v 1) (.m (.m (.m (.m (.m (.v 4) (.v 4)) (.v 4)) (.v 4)) (.v 4)) (.v 4))) (.m (.m (.v 5) (.v 5)) (.v 5)))) (.m (.m (.m (.m (.m (.m (.v 4) (.v 4)) (.v 4)) (.v 4)) (.v 4)) (.m (.v 5) (.v 5))) (.m (.v 1) (.v 1)))) (.m (.m (.m (.n (-1)) (.v 0)) (.v 1)) (.m (.m (.m (.m (.m (.m (.v 4) (.v 4)) (.v 4)) (.v 4)) (.v 4)) (.v 4)) (.v 4)))) (.m (.m (.m (.n (-1)) (.m (.v 4) (.v 4))) (.m (.m (.m (.m (.v 5) (.v 5)) (.v 5)) (.v 5)) (.v 5))) (.m (.v 2) (.v 2)))) (.m (.m (.m (.n (-1)) (.m (.v 4) (.v 4))) (.m (.m (.m (.m (.v 5) (.v 5)) (.v 5)) (.v 5)) (.v 5))) (.m (.v 1) (.v 1)))) (.m (.m (.m (.n (-18)) (.v 2)) (.m (.m (.m (.m (.v 4) (.v 4)) (.v 4)) (.v 4)) (.v 4))) (.m (.v 1) (.v 1)))) (.m (.m (.m (.n (-16)) (.v 2)) (.v 3)) (.m (.m (.m (.m (.m (.v 4) (.v 4)) (.v 4)) (.v 4)) (.v 4)) (.v 4)))) (.m (.m (.m (.n (-12)) (.v 2)) (.m (.m (.v 4) (.v 4)) (.v 4))) (.m (.v 3) (.v 3)))) (.m (.m (.m (.n (-11)) (.m (.m (.v 4) (.v 4)) (.v 4))) (.m (.v 5) (.v 5))) (.m (.m (.v 2) (.v 2)) (.v 2)))) (.m (.m (.m (.n (-10)) (.v 1)) (.m (.m (.v 4) (.v 4)) (.v 4))) (.m (.m (.v 2) (.v 2)) (.v 2)))) (.m (.m (.m (.n (-9)) (.v 0)) (.m (.m (.m (.m (.v 4) (.v 4)) (.v 4)) (.v 4)) (.v 4))) (.m (.v 2) (.v 2)))) (.m (.m (.m (.n (-8)) (.v 5)) (.m (.m (.m (.m (.m (.v 4) (.v 4)) (.v 4)) (.v 4)) (.v 4)) (.v 4))) (.m (.v 2) (.v 2)))) (.m (.m (.m (.n (-8)) (.v 2)) (.v 1)) (.m (.m (.m (.m (.m (.m (.v 4) (.v 4)) (.v 4)) (.v 4)) (.v 4)) (.v 4)) (.v 4)))) (.m (.m (.m (.n (-8)) (.v 2)) (.m (.m (.v 4) (.v 4)) (.v 4))) (.m (.m (.v 1) (.v 1)) (.v 1)))) (.m (.m (.m (.n (-6)) (.v 4)) (.v 1)) (.m (.m (.m (.v 2) (.v 2)) (.v 2)) (.v 2)))) (.m (.m (.m (.n (-6)) (.v 3)) (.m (.v 4) (.v 4))) (.m (.m (.v 2) (.v 2)) (.v 2)))) (.m (.m (.m (.n (-6)) (.v 3)) (.m (.m (.m (.m (.v 4) (.v 4)) (.v 4)) (.v 4)) (.v 4))) (.m (.m (.v 5) (.v 5)) (.v 5)))) (.m (.m (.m (.n (-4)) (.v 4)) (.m (.v 5) (.v 5))) (.m (.m (.m (.v 2) (.v 2)) (.v 2)) (.v 2)))) (.m (.m (.m (.n (-4)) (.m (.m (.m (.v 4) (.v 4)) (.v 4)) (.v 4))) (.m (.m (.v 5) (.v 5)) (.v 5))) (.m (.v 2) (.v 2)))) (.m (.m (.m (.n (-3)) (.v 4)) (.v 2)) (.m (.m (.m (.v 1) (.v 1)) (.v 1)) (.v 1)))) (.m (.m (.m (.n (-3)) (.v 0)) (.m (.m (.m (.m (.v 4) (.v 4)) (.v 4)) (.v 4)) (.v 4))) (.m (.v 1) (.v 1)))) (.m (.m (.m (.n (-3)) (.v 2)) (.m (.m (.m (.m (.v 4) (.v 4)) (.v 4)) (.v 4)) (.v 4))) (.m (.m (.m (.v 5) (.v 5)) (.v 5)) (.v 5)))) (.m (.m (.m (.n (-3)) (.v 2)) (.m (.m (.m (.m (.m (.m (.v 4) (.v 4)) (.v 4)) (.v 4)) (.v 4)) (.v 4)) (.v 4))) (.m (.v 5) (.v 5)))) (.m (.m (.m (.n (-2)) (.v 0)) (.m (.m (.v 4) (.v 4)) (.v 4))) (.m (.m (.v 1) (.v 1)) (.v 1)))) (.m (.m (.m (.n (-2)) (.m (.v 4) (.v 4))) (.m (.m (.v 5) (.v 5)) (.v 5))) (.m (.m (.v 2) (.v 2)) (.v 2)))) (.m (.m (.m (.n 2) (.v 0)) (.m (.m (.v 4) (.v 4)) (.v 4))) (.m (.m (.v 2) (.v 2)) (.v 2)))) (.m (.m (.m (.n 2) (.v 0)) (.m (.m (.m (.m (.m (.v 4) (.v 4)) (.v 4)) (.v 4)) (.v 4)) (.v 4))) (.m (.m (.v 5) (.v 5)) (.v 5)))) (.m (.m (.m (.n 3) (.v 4)) (.v 0)) (.m (.m (.m (.v 2) (.v 2)) (.v 2)) (.v 2)))) (.m (.m (.m (.n 3) (.v 5)) (.m (.m (.m (.v 4) (.v 4)) (.v 4)) (.v 4))) (.m (.m (.v 1) (.v 1)) (.v 1)))) (.m (.m (.m (.n 3) (.v 1)) (.m (.m (.m (.m (.v 4) (.v 4)) (.v 4)) (.v 4)) (.v 4))) (.m (.m (.m (.v 5) (.v 5)) (.v 5)) (.v 5)))) (.m (.m (.m (.n 3) (.v 1)) (.m (.m (.m (.m (.m (.m (.v 4) (.v 4)) (.v 4)) (.v 4)) (.v 4)) (.v 4)) (.v 4))) (.m (.v 5) (.v 5)))) (.m (.m (.m (.n 4) (.v 5)) (.v 3)) (.m (.m (.m (.m (.m (.m (.v 4) (.v 4)) (.v 4)) (.v 4)) (.v 4)) (.v 4)) (.v 4)))) (.m (.m (.m (.n 4) (.v 5)) (.m (.m (.m (.v 4) (.v 4)) (.v 4)) (.v 4))) (.m (.v 3) (.v 3)))) (.m (.m (.m (.n 4) (.v 1)) (.v 3)) (.m (.m (.m (.m (.m (.v 4) (.v 4)) (.v 4)) (.v 4)) (.v 4)) (.v 4)))) (.m (.m (.m (.n 4) (.v 3)) (.m (.m (.m (.v 4) (.v 4)) (.v 4)) (.v 4))) (.m (.v 1) (.v 1)))) (.m (.m (.m (.n 4) (.v 3)) (.m (.m (.m (.m (.m (.v 4) (.v 4)) (.v 4)) (.v 4)) (.v 4)) (.v 4))) (.m (.v 5) (.v 5)))) (.m (.m (.m (.n 4) (.m (.m (.v 4) (.v 4)) (.v 4))) (.m (.v 5) (.v 5))) (.m (.v 3) (.v 3)))) (.m (.m (.m (.n 5) (.v 5)) (.v 1)) (.m (.m (.m (.m (.m (.m (.m (.v 4) (.v 4)) (.v 4)) (.v 4)) (.v 4)) (.v 4)) (.v 4)) (.v 4)))) (.m (.m (.m (.n 6) (.v 4)) (.m (.v 2) (.v 2))) (.m (.m (.v 1) (.v 1)) (.v 1)))) (.m (.m (.m (.n 6) (.v 5)) (.m (.m (.m (.m (.m (.v 4) (.v 4)) (.v 4)) (.v 4)) (.v 4)) (.v 4))) (.m (.v 1) (.v 1)))) (.m (.m (.m (.n 6) (.m (.m (.v 4) (.v 4)) (.v 4))) (.m (.m (.m (.v 5) (.v 5)) (.v 5)) (.v 5))) (.m (.v 2) (.v 2)))) (.m (.m (.m (.n 9) (.v 5)) (.m (.m (.m (.v 4) (.v 4)) (.v 4)) (.v 4))) (.m (.m (.v 2) (.v 2)) (.v 2)))) (.m (.m (.m (.n 9) (.v 2)) (.m (.m (.m (.m (.m (.v 4) (.v 4)) (.v 4)) (.v 4)) (.v 4)) (.v 4))) (.m (.m (.v 5) (.v 5)) (.v 5)))) (.m (.m (.m (.n 12) (.v 5)) (.m (.v 4) (.v 4))) (.m (.m (.m (.v 2) (.v 2)) (.v 2)) (.v 2)))) (.m (.m (.m (.n 13) (.m (.m (.m (.m (.v 4) (.v 4)) (.v 4)) (.v 4)) (.v 4))) (.m (.v 5) (.v 5))) (.m (.v 2) (.v 2)))) (.m (.m (.m (.n 21) (.v 1)) (.m (.m (.m (.m (.v 4) (.v 4)) (.v 4)) (.v 4)) (.v 4))) (.m (.v 2) (.v 2)))) (.m (.m (.m (.n 30) (.m (.m (.v 4) (.v 4)) (.v 4))) (.m (.v 2) (.v 2))) (.m (.v 1) (.v 1)))) (.m (.m (.m (.n 50) (.v 3)) (.m (.m (.m (.v 4) (.v 4)) (.v 4)) (.v 4))) (.m (.v 2) (.v 2)))) (.m (.m (.m (.v 4) (.v 0)) (.m (.v 5) (.v 5))) (.m (.m (.v 2) (.v 2)) (.v 2)))) (.m (.m (.m (.v 4) (.v 2)) (.m (.v 5) (.v 5))) (.m (.m (.v 1) (.v 1)) (.v 1)))) (.m (.m (.m (.v 4) (.v 2)) (.m (.m (.m (.v 5) (.v 5)) (.v 5)) (.v 5))) (.m (.v 1) (.v 1)))) (.m (.m (.m (.v 5) (.v 0)) (.m (.v 4) (.v 4))) (.m (.m (.v 2) (.v 2)) (.v 2)))) (.m (.m (.m (.v 2) (.m (.v 4) (.v 4))) (.m (.m (.v 5) (.v 5)) (.v 5))) (.m (.v 1) (.v 1)))) (.m (.m (.m (.v 1) (.m (.v 4) (.v 4))) (.m (.m (.v 5) (.v 5)) (.v 5))) (.m (.v 2) (.v 2)))) (.m (.m (.m (.m (.n (-1)) (.v 4)) (.v 0)) (.m (.v 5) (.v 5))) (.m (.m (.v 1) (.v 1)) (.v 1)))) (.m (.m (.m (.m (.n (-1)) (.v 4)) (.v 0)) (.m (.m (.m (.v 5) (.v 5)) (.v 5)) (.v 5))) (.m (.v 2) (.v 2)))) (.m (.m (.m (.m (.n (-1)) (.v 4)) (.v 0)) (.m (.m (.m (.v 5) (.v 5)) (.v 5)) (.v 5))) (.m (.v 1) (.v 1)))) (.m (.m (.m (.m (.n (-1)) (.v 5)) (.v 0)) (.v 2)) (.m (.m (.m (.m (.m (.v 4) (.v 4)) (.v 4)) (.v 4)) (.v 4)) (.v 4)))) (.m (.m (.m (.m (.n (-1)) (.v 0)) (.v 1)) (.m (.m (.m (.v 4) (.v 4)) (.v 4)) (.v 4))) (.m (.m (.v 5) (.v 5)) (.v 5)))) (.m (.m (.m (.m (.n (-1)) (.v 0)) (.m (.v 4) (.v 4))) (.m (.m (.v 5) (.v 5)) (.v 5))) (.m (.v 2) (.v 2)))) (.m (.m (.m (.m (.n (-1)) (.v 0)) (.m (.v 4) (.v 4))) (.m (.m (.v 5) (.v 5)) (.v 5))) (.m (.v 1) (.v 1)))) (.m (.m (.m (.m (.n (-1)) (.v 0)) (.m (.m (.v 4) (.v 4)) (.v 4))) (.m (.v 5) (.v 5))) (.m (.v 1) (.v 1)))) (.m (.m (.m (.m (.n (-28)) (.v 5)) (.v 2)) (.v 1)) (.m (.m (.m (.m (.m (.v 4) (.v 4)) (.v 4)) (.v 4)) (.v 4)) (.v 4)))) (.m (.m (.m (.m (.n (-24)) (.v 2)) (.v 1)) (.v 3)) (.m (.m (.m (.v 4) (.v 4)) (.v 4)) (.v 4)))) (.m (.m (.m (.m (.n (-21)) (.v 5)) (.v 2)) (.m (.m (.m (.v 4) (.v 4)) (.v 4)) (.v 4))) (.m (.v 1) (.v 1)))) (.m (.m (.m (.m (.n (-18)) (.v 2)) (.v 3)) (.m (.v 4) (.v 4))) (.m (.v 1) (.v 1)))) (.m (.m (.m (.m (.n (-16)) (.v 5)) (.v 1)) (.m (.v 4) (.v 4))) (.m (.m (.v 2) (.v 2)) (.v 2)))) (.m (.m (.m (.m (.n (-14)) (.v 2)) (.v 1)) (.m (.m (.m (.m (.v 4) (.v 4)) (.v 4)) (.v 4)) (.v 4))) (.m (.v 5) (.v 5)))) (.m (.m (.m (.m (.n (-14)) (.v 2)) (.v 3)) (.m (.m (.m (.v 4) (.v 4)) (.v 4)) (.v 4))) (.m (.v 5) (.v 5)))) (.m (.m (.m (.m (.n (-12)) (.v 0)) (.v 1)) (.m (.m (.v 4) (.v 4)) (.v 4))) (.m (.v 2) (.v 2)))) (.m (.m (.m (.m (.n (-12)) (.v 0)) (.v 3)) (.m (.v 4) (.v 4))) (.m (.v 2) (.v 2)))) (.m (.m (.m (.m (.n (-10)) (.v 5)) (.v 3)) (.m (.m (.v 4) (.v 4)) (.v 4))) (.m (.v 2) (.v 2)))) (.m (.m (.m (.m (.n (-9)) (.v 4)) (.v 0)) (.m (.v 2) (.v 2))) (.m (.v 1) (.v 1)))) (.m (.m (.m (.m (.n (-8)) (.v 5)) (.v 2)) (.v 3)) (.m (.m (.m (.m (.v 4) (.v 4)) (.v 4)) (.v 4)) (.v 4)))) (.m (.m (.m (.m (.n (-7)) (.v 0)) (.m (.m (.v 4) (.v 4)) (.v 4))) (.m (.v 5) (.v 5))) (.m (.v 2) (.v 2)))) (.m (.m (.m (.m (.n (-6)) (.v 4)) (.m (.v 5) (.v 5))) (.m (.v 2) (.v 2))) (.m (.v 1) (.v 1)))) (.m (.m (.m (.m (.n (-6)) (.v 5)) (.v 0)) (.m (.m (.m (.v 4) (.v 4)) (.v 4)) (.v 4))) (.m (.v 1) (.v 1)))) (.m (.m (.m (.m (.n (-6)) (.v 2)) (.v 1)) (.m (.m (.v 4) (.v 4)) (.v 4))) (.m (.m (.m (.v 5) (.v 5)) (.v 5)) (.v 5)))) (.m (.m (.m (.m (.n (-5)) (.v 5)) (.v 0)) (.v 1)) (.m (.m (.m (.m (.m (.v 4) (.v 4)) (.v 4)) (.v 4)) (.v 4)) (.v 4)))) (.m (.m (.m (.m (.n (-5)) (.v 0)) (.v 2)) (.m (.m (.m (.v 4) (.v 4)) (.v 4)) (.v 4))) (.m (.m (.v 5) (.v 5)) (.v 5)))) (.m (.m (.m (.m (.n (-4)) (.v 5)) (.v 0)) (.v 3)) (.m (.m (.m (.m (.v 4) (.v 4)) (.v 4)) (.v 4)) (.v 4)))) (.m (.m (.m (.m (.n (-4)) (.v 5)) (.v 0)) (.m (.v 4) (.v 4))) (.m (.m (.v 1) (.v 1)) (.v 1)))) (.m (.m (.m (.m (.n (-4)) (.v 0)) (.v 3)) (.m (.m (.m (.v 4) (.v 4)) (.v 4)) (.v 4))) (.m (.v 5) (.v 5)))) (.m (.m (.m (.m (.n (-3)) (.v 5)) (.v 2)) (.m (.v 4) (.v 4))) (.m (.m (.v 1) (.v 1)) (.v 1)))) (.m (.m (.m (.m (.n (-3)) (.v 0)) (.v 1)) (.m (.m (.v 4) (.v 4)) (.v 4))) (.m (.m (.m (.v 5) (.v 5)) (.v 5)) (.v 5)))) (.m (.m (.m (.m (.n (-3)) (.v 0)) (.v 1)) (.m (.m (.m (.m (.v 4) (.v 4)) (.v 4)) (.v 4)) (.v 4))) (.m (.v 5) (.v 5)))) (.m (.m (.m (.m (.n (-2)) (.v 4)) (.v 1)) (.m (.m (.m (.v 5) (.v 5)) (.v 5)) (.v 5))) (.m (.v 2) (.v 2)))) (.m (.m (.m (.m (.n (-2)) (.v 0)) (.v 1)) (.v 3)) (.m (.m (.m (.v 4) (.v 4)) (.v 4)) (.v 4)))) (.m (.m (.m (.m (.n (-2)) (.v 2)) (.v 1)) (.m (.m (.m (.v 4) (.v 4)) (.v 4)) (.v 4))) (.m (.m (.v 5) (.v 5)) (.v 5)))) (.m (.m (.m (.m (.n (-2)) (.v 2)) (.v 3)) (.m (.v 4) (.v 4))) (.m (.m (.m (.v 5) (.v 5)) (.v 5)) (.v 5)))) (.m (.m (.m (.m (.n (-2)) (.v 2)) (.m (.m (.v 4) (.v 4)) (.v 4))) (.m (.v 5) (.v 5))) (.m (.v 1) (.v 1)))) (.m (.m (.m (.m (.n (-2)) (.v 1)) (.v 3)) (.m (.m (.v 4) (.v 4)) (.v 4))) (.m (.m (.v 5) (.v 5)) (.v 5)))) (.m (.m (.m (.m (.n 2) (.v 0)) (.v 3)) (.m (.m (.v 4) (.v 4)) (.v 4))) (.m (.m (.v 5) (.v 5)) (.v 5)))) (.m (.m (.m (.m (.n 2) (.v 2)) (.v 1)) (.m (.v 4) (.v 4))) (.m (.m (.m (.m (.v 5) (.v 5)) (.v 5)) (.v 5)) (.v 5)))) (.m (.m (.m (.m (.n 2) (.v 1)) (.v 3)) (.m (.v 4) (.v 4))) (.m (.m (.m (.v 5) (.v 5)) (.v 5)) (.v 5)))) (.m (.m (.m (.m (.n 3) (.v 0)) (.v 2)) (.m (.m (.v 4) (.v 4)) (.v 4))) (.m (.m (.m (.v 5) (.v 5)) (.v 5)) (.v 5)))) (.m (.m (.m (.m (.n 3) (.v 0)) (.v 2)) (.m (.m (.m (.m (.v 4) (.v 4)) (.v 4)) (.v 4)) (.v 4))) (.m (.v 5) (.v 5)))) (.m (.m (.m (.m (.n 4) (.v 3)) (.m (.v 4) (.v 4))) (.m (.v 5) (.v 5))) (.m (.v 1) (.v 1)))) (.m (.m (.m (.m (.n 6) (.v 4)) (.v 0)) (.v 2)) (.m (.m (.v 1) (.v 1)) (.v 1)))) (.m (.m (.m (.m (.n 6) (.v 5)) (.v 0)) (.m (.m (.m (.v 4) (.v 4)) (.v 4)) (.v 4))) (.m (.v 2) (.v 2)))) (.m (.m (.m (.m (.n 6) (.v 5)) (.m (.v 4) (.v 4))) (.m (.v 2) (.v 2))) (.m (.v 1) (.v 1)))) (.m (.m (.m (.m (.n 6) (.v 0)) (.v 2)) (.v 1)) (.m (.m (.m (.m (.v 4) (.v 4)) (.v 4)) (.v 4)) (.v 4)))) (.m (.m (.m (.m (.n 6) (.v 2)) (.v 3)) (.m (.m (.v 4) (.v 4)) (.v 4))) (.m (.m (.v 5) (.v 5)) (.v 5)))) (.m (.m (.m (.m (.n 6) (.v 1)) (.v 3)) (.m (.m (.m (.v 4) (.v 4)) (.v 4)) (.v 4))) (.m (.v 5) (.v 5)))) (.m (.m (.m (.m (.n 6) (.v 3)) (.m (.v 4) (.v 4))) (.m (.v 5) (.v 5))) (.m (.v 2) (.v 2)))) (.m (.m (.m (.m (.n 9) (.v 4)) (.v 1)) (.m (.v 5) (.v 5))) (.m (.m (.v 2) (.v 2)) (.v 2)))) (.m (.m (.m (.m (.n 10) (.v 5)) (.v 3)) (.m (.m (.v 4) (.v 4)) (.v 4))) (.m (.v 1) (.v 1)))) (.m (.m (.m (.m (.n 12) (.v 0)) (.v 2)) (.m (.m (.v 4) (.v 4)) (.v 4))) (.m (.v 1) (.v 1)))) (.m (.m (.m (.m (.n 13) (.v 1)) (.m (.m (.v 4) (.v 4)) (.v 4))) (.m (.v 5) (.v 5))) (.m (.v 2) (.v 2)))) (.m (.m (.m (.m (.n 14) (.v 0)) (.v 2)) (.v 3)) (.m (.m (.m (.v 4) (.v 4)) (.v 4)) (.v 4)))) (.m (.m (.m (.m (.n 18) (.v 5)) (.v 1)) (.v 3)) (.m (.m (.m (.m (.v 4) (.v 4)) (.v 4)) (.v 4)) (.v 4)))) (.m (.m (.m (.m (.n 24) (.v 1)) (.v 3)) (.m (.v 4) (.v 4))) (.m (.v 2) (.v 2)))) (.m (.m (.m (.m (.n 27) (.v 5)) (.v 1)) (.m (.m (.m (.v 4) (.v 4)) (.v 4)) (.v 4))) (.m (.v 2) (.v 2)))) (.m (.m (.m (.m (.m (.n (-12)) (.v 5)) (.v 2)) (.v 1)) (.v 3)) (.m (.m (.v 4) (.v 4)) (.v 4)))) (.m (.m (.m (.m (.m (.n (-10)) (.v 2)) (.v 1)) (.v 3)) (.m (.v 4) (.v 4))) (.m (.v 5) (.v 5)))) (.m (.m (.m (.m (.m (.n (-8)) (.v 5)) (.v 0)) (.v 1)) (.v 3)) (.m (.m (.v 4) (.v 4)) (.v 4)))) (.m (.m (.m (.m (.m (.n (-6)) (.v 5)) (.v 0)) (.v 1)) (.m (.v 4) (.v 4))) (.m (.v 2) (.v 2)))) (.m (.m (.m (.m (.m (.n (-4)) (.v 0)) (.v 1)) (.v 3)) (.m (.v 4) (.v 4))) (.m (.v 5) (.v 5)))) (.m (.m (.m (.m (.m (.n (-3)) (.v 4)) (.v 0)) (.v 1)) (.m (.v 5) (.v 5))) (.m (.v 2) (.v 2)))) (.m (.m (.m (.m (.m (.n 2) (.v 4)) (.v 0)) (.v 2)) (.v 1)) (.m (.m (.m (.v 5) (.v 5)) (.v 5)) (.v 5)))) (.m (.m (.m (.m (.m (.n 2) (.v 5)) (.v 0)) (.v 2)) (.v 3)) (.m (.m (.v 4) (.v 4)) (.v 4)))) (.m (.m (.m (.m (.m (.n 2) (.v 0)) (.v 2)) (.v 1)) (.m (.v 4) (.v 4))) (.m (.m (.v 5) (.v 5)) (.v 5)))) (.m (.m (.m (.m (.m (.n 3) (.v 4)) (.v 0)) (.v 2)) (.m (.v 5) (.v 5))) (.m (.v 1) (.v 1)))) (.m (.m (.m (.m (.m (.n 4) (.v 0)) (.v 2)) (.v 3)) (.m (.v 4) (.v 4))) (.m (.v 5) (.v 5)))) (.m (.m (.m (.m (.m (.n 8) (.v 0)) (.v 2)) (.v 1)) (.m (.m (.v 4) (.v 4)) (.v 4))) (.m (.v 5) (.v 5)))) (.m (.m (.m (.m (.m (.n 9) (.v 5)) (.v 0)) (.v 2)) (.m (.v 4) (.v 4))) (.m (.v 1) (.v 1)))) (.m (.m (.m (.m (.m (.n 12) (.v 0)) (.v 2)) (.v 1)) (.v 3)) (.m (.v 4) (.v 4)))) (.m (.m (.m (.m (.m (.n 18) (.v 5)) (.v 0)) (.v 2)) (.v 1)) (.m (.m (.m (.v 4) (.v 4)) (.v 4)) (.v 4))))
def Wytt : Ex := (.s (.s (.m (.m Nt (.s (.m (.m (.v 1) Dt) Dt) Ztt)) Ft) (.m (.m (.m (.m Y3 Dt) Dt) Dt) Ft)) (.s (.m (.m Mt (.s (.m (.m (.v 0) Dt) Dt) Ztt)) Dt) (.m (.m (.m (.m Y1 Dt) Dt) Dt) Ft)))
theorem id_ytt : Wytt.norm = (Ex.a (.m Pytt C1) (.m Qytt C2)).norm := by decide +kernel
end Go.Proofs.YtgdimcnokagddaaDoor.Ec

/-
  Own text. Sums of points on y y = x x x + b hang on no brackets, where no sum on the way is infinity: in any field. Speaks of no program.
-/
namespace Go.Proofs.YtgdimcnokagddaaDoor.Ec
set_option linter.unusedVariables false
set_option maxRecDepth 100000
open Go Go.Proofs.YtgdimcnokagddaaDoor.Ring
section
variable {α : Type} (F : Fd α)
def Fd.sub (a b : α) : α := F.add a (F.mul (F.int (-1)) b)
theorem Fd.Z_of {a b : α} (h : F.eq a b) (ha : F.Z a) : F.Z b := by
  have e : b = F.add a (F.mul (F.int (-1)) (F.add a (F.mul (F.int (-1)) b))) := F.eq_of (fun i => match i with | 0 => a | _ => b) (e := .v 1) (f := .s (.v 0) (.s (.v 0) (.v 1))) rfl rfl (by decide)
  rw [e]
  exact F.za ha (F.zm' _ h)
theorem Fd.sub_eq {a b c d : α} (h : F.eq a b) (h' : F.eq c d) : F.eq (F.sub a c) (F.sub b d) := F.add_eq h (F.mul_eq (F.refl _) h')
theorem Fd.nz {a b : α} (h : ¬ F.Z a) (h' : ¬ F.Z b) : ¬ F.Z (F.mul a b) := fun h0 => (F.zd h0).elim h h'
/-- The first numbers of both sums are one. -/
theorem brx {N D M Q n k x4 x3 x1 x5 : α} (hn : F.eq (F.mul n D) N) (hk : F.eq (F.mul k Q) M) (hD : ¬ F.Z D) (hQ : ¬ F.Z Q)
    (hW : F.Z (F.sub (F.sub (F.mul (F.mul (F.mul N N) Q) Q) (F.mul (F.mul (F.mul M M) D) D)) (F.mul (F.mul (F.mul (F.mul (F.sub (F.sub (F.add x4 x3) x1) x5) D) D) Q) Q))) :
    F.eq (F.sub (F.sub (F.mul n n) x4) x3) (F.sub (F.sub (F.mul k k) x1) x5) := by
  have hn' := F.symm hn
  have hk' := F.symm hk
  have h1 := F.Z_of (F.sub_eq (F.sub_eq (F.mul_eq (F.mul_eq (F.mul_eq hn' hn') (F.refl Q)) (F.refl Q)) (F.mul_eq (F.mul_eq (F.mul_eq hk' hk') (F.refl D)) (F.refl D))) (F.refl (F.mul (F.mul (F.mul (F.mul (F.sub (F.sub (F.add x4 x3) x1) x5) D) D) Q) Q))) hW
  have e : F.sub (F.sub (F.mul (F.mul (F.mul (F.mul n D) (F.mul n D)) Q) Q) (F.mul (F.mul (F.mul (F.mul k Q) (F.mul k Q)) D) D)) (F.mul (F.mul (F.mul (F.mul (F.sub (F.sub (F.add x4 x3) x1) x5) D) D) Q) Q)
      = F.mul (F.sub (F.sub (F.sub (F.mul n n) x4) x3) (F.sub (F.sub (F.mul k k) x1) x5)) (F.mul (F.mul D D) (F.mul Q Q)) :=
    F.eq_of (fun i => match i with | 0 => n | 1 => D | 2 => k | 3 => Q | 4 => x4 | 5 => x3 | 6 => x1 | _ => x5)
      (e := .s (.s (.m (.m (.m (.m (.v 0) (.v 1)) (.m (.v 0) (.v 1))) (.v 3)) (.v 3)) (.m (.m (.m (.m (.v 2) (.v 3)) (.m (.v 2) (.v 3))) (.v 1)) (.v 1))) (.m (.m (.m (.m (.s (.s (.a (.v 4) (.v 5)) (.v 6)) (.v 7)) (.v 1)) (.v 1)) (.v 3)) (.v 3)))
      (f := .m (.s (.s (.s (.m (.v 0) (.v 0)) (.v 4)) (.v 5)) (.s (.s (.m (.v 2) (.v 2)) (.v 6)) (.v 7))) (.m (.m (.v 1) (.v 1)) (.m (.v 3) (.v 3)))) rfl rfl (by decide +kernel)
  rw [e] at h1
  exact (F.zd h1).resolve_right (F.nz (F.nz hD hD) (F.nz hQ hQ))
/-- The second numbers of both sums are one. -/
theorem bry {N D M Q n k x4 x3 x1 y3 y1 : α} (hn : F.eq (F.mul n D) N) (hk : F.eq (F.mul k Q) M) (hD : ¬ F.Z D) (hQ : ¬ F.Z Q)
    (hW : F.Z (F.sub (F.sub (F.mul (F.mul N (F.sub (F.mul (F.mul x3 D) D) (F.sub (F.mul N N) (F.mul (F.mul (F.add x4 x3) D) D)))) Q) (F.mul (F.mul (F.mul (F.mul y3 D) D) D) Q)) (F.sub (F.mul (F.mul M (F.sub (F.mul (F.mul x1 D) D) (F.sub (F.mul N N) (F.mul (F.mul (F.add x4 x3) D) D)))) D) (F.mul (F.mul (F.mul (F.mul y1 D) D) D) Q)))) :
    F.eq (F.sub (F.mul n (F.sub x3 (F.sub (F.sub (F.mul n n) x4) x3))) y3) (F.sub (F.mul k (F.sub x1 (F.sub (F.sub (F.mul n n) x4) x3))) y1) := by
  have hn' := F.symm hn
  have hk' := F.symm hk
  have hx := F.sub_eq (F.mul_eq hn' hn') (F.refl (F.mul (F.mul (F.add x4 x3) D) D))
  have h1 := F.Z_of (F.sub_eq (F.sub_eq (F.mul_eq (F.mul_eq hn' (F.sub_eq (F.refl (F.mul (F.mul x3 D) D)) hx)) (F.refl Q)) (F.refl (F.mul (F.mul (F.mul (F.mul y3 D) D) D) Q))) (F.sub_eq (F.mul_eq (F.mul_eq hk' (F.sub_eq (F.refl (F.mul (F.mul x1 D) D)) hx)) (F.refl D)) (F.refl (F.mul (F.mul (F.mul (F.mul y1 D) D) D) Q)))) hW
  have e : F.sub (F.sub (F.mul (F.mul (F.mul n D) (F.sub (F.mul (F.mul x3 D) D) (F.sub (F.mul (F.mul n D) (F.mul n D)) (F.mul (F.mul (F.add x4 x3) D) D)))) Q) (F.mul (F.mul (F.mul (F.mul y3 D) D) D) Q)) (F.sub (F.mul (F.mul (F.mul k Q) (F.sub (F.mul (F.mul x1 D) D) (F.sub (F.mul (F.mul n D) (F.mul n D)) (F.mul (F.mul (F.add x4 x3) D) D)))) D) (F.mul (F.mul (F.mul (F.mul y1 D) D) D) Q))
      = F.mul (F.sub (F.sub (F.mul n (F.sub x3 (F.sub (F.sub (F.mul n n) x4) x3))) y3) (F.sub (F.mul k (F.sub x1 (F.sub (F.sub (F.mul n n) x4) x3))) y1)) (F.mul (F.mul D D) (F.mul D Q)) :=
    F.eq_of (fun i => match i with | 0 => n | 1 => D | 2 => k | 3 => Q | 4 => x4 | 5 => x3 | 6 => x1 | 7 => y3 | _ => y1)
      (e := .s (.s (.m (.m (.m (.v 0) (.v 1)) (.s (.m (.m (.v 5) (.v 1)) (.v 1)) (.s (.m (.m (.v 0) (.v 1)) (.m (.v 0) (.v 1))) (.m (.m (.a (.v 4) (.v 5)) (.v 1)) (.v 1))))) (.v 3)) (.m (.m (.m (.m (.v 7) (.v 1)) (.v 1)) (.v 1)) (.v 3))) (.s (.m (.m (.m (.v 2) (.v 3)) (.s (.m (.m (.v 6) (.v 1)) (.v 1)) (.s (.m (.m (.v 0) (.v 1)) (.m (.v 0) (.v 1))) (.m (.m (.a (.v 4) (.v 5)) (.v 1)) (.v 1))))) (.v 1)) (.m (.m (.m (.m (.v 8) (.v 1)) (.v 1)) (.v 1)) (.v 3))))
      (f := .m (.s (.s (.m (.v 0) (.s (.v 5) (.s (.s (.m (.v 0) (.v 0)) (.v 4)) (.v 5)))) (.v 7)) (.s (.m (.v 2) (.s (.v 6) (.s (.s (.m (.v 0) (.v 0)) (.v 4)) (.v 5)))) (.v 8))) (.m (.m (.v 1) (.v 1)) (.m (.v 1) (.v 3)))) rfl rfl (by decide +kernel)
  rw [e] at h1
  exact (F.zd h1).resolve_right (F.nz (F.nz hD hD) (F.nz hD hQ))
theorem zid {W P Q : Ex} (en : Nat → α) (h : W.norm = (Ex.a (.m P C1) (.m Q C2)).norm) (h1 : F.Z (C1.val F.toRg en)) (h2 : F.Z (C2.val F.toRg en)) : F.Z (W.val F.toRg en) := by
  rw [same F.toRg en h]
  exact F.za (F.zm' _ h1) (F.zm' _ h2)
/-- Both sums are one point: the outer slopes n, k of a chord and a chord. -/
theorem br_cc (en : Nat → α) {n k : α} (h1 : F.Z (C1.val F.toRg en)) (h2 : F.Z (C2.val F.toRg en)) (hD : ¬ F.Z (Dc.val F.toRg en)) (hQ : ¬ F.Z (Fc.val F.toRg en)) (hn : F.eq (F.mul n (Dc.val F.toRg en)) (Nc.val F.toRg en)) (hk : F.eq (F.mul k (Fc.val F.toRg en)) (Mc.val F.toRg en)) :
    F.eq (F.sub (F.sub (F.mul n n) (X4.val F.toRg en)) (en 1)) (F.sub (F.sub (F.mul k k) (en 0)) (X5.val F.toRg en)) ∧
    F.eq (F.sub (F.mul n (F.sub (en 1) (F.sub (F.sub (F.mul n n) (X4.val F.toRg en)) (en 1)))) (Y3.val F.toRg en)) (F.sub (F.mul k (F.sub (en 0) (F.sub (F.sub (F.mul n n) (X4.val F.toRg en)) (en 1)))) (Y1.val F.toRg en)) :=
  ⟨brx F hn hk hD hQ (zid F en id_xcc h1 h2), bry F hn hk hD hQ (zid F en id_ycc h1 h2)⟩
/-- Both sums are one point: the outer slopes n, k of a chord and a tangent. -/
theorem br_ct (en : Nat → α) {n k : α} (h1 : F.Z (C1.val F.toRg en)) (h2 : F.Z (C2.val F.toRg en)) (hD : ¬ F.Z (Dc.val F.toRg en)) (hQ : ¬ F.Z (Ft.val F.toRg en)) (hn : F.eq (F.mul n (Dc.val F.toRg en)) (Nc.val F.toRg en)) (hk : F.eq (F.mul k (Ft.val F.toRg en)) (Mt.val F.toRg en)) :
    F.eq (F.sub (F.sub (F.mul n n) (X4.val F.toRg en)) (en 1)) (F.sub (F.sub (F.mul k k) (en 0)) (X5.val F.toRg en)) ∧
    F.eq (F.sub (F.mul n (F.sub (en 1) (F.sub (F.sub (F.mul n n) (X4.val F.toRg en)) (en 1)))) (Y3.val F.toRg en)) (F.sub (F.mul k (F.sub (en 0) (F.sub (F.sub (F.mul n n) (X4.val F.toRg en)) (en 1)))) (Y1.val F.toRg en)) :=
  ⟨brx F hn hk hD hQ (zid F en id_xct h1 h2), bry F hn hk hD hQ (zid F en id_yct h1 h2)⟩
/-- Both sums are one point: the outer slopes n, k of a tangent and a chord. -/
theorem br_tc (en : Nat → α) {n k : α} (h1 : F.Z (C1.val F.toRg en)) (h2 : F.Z (C2.val F.toRg en)) (hD : ¬ F.Z (Dt.val F.toRg en)) (hQ : ¬ F.Z (Fc.val F.toRg en)) (hn : F.eq (F.mul n (Dt.val F.toRg en)) (Nt.val F.toRg en)) (hk : F.eq (F.mul k (Fc.val F.toRg en)) (Mc.val F.toRg en)) :
    F.eq (F.sub (F.sub (F.mul n n) (X4.val F.toRg en)) (en 1)) (F.sub (F.sub (F.mul k k) (en 0)) (X5.val F.toRg en)) ∧
    F.eq (F.sub (F.mul n (F.sub (en 1) (F.sub (F.sub (F.mul n n) (X4.val F.toRg en)) (en 1)))) (Y3.val F.toRg en)) (F.sub (F.mul k (F.sub (en 0) (F.sub (F.sub (F.mul n n) (X4.val F.toRg en)) (en 1)))) (Y1.val F.toRg en)) :=
  ⟨brx F hn hk hD hQ (zid F en id_xtc h1 h2), bry F hn hk hD hQ (zid F en id_ytc h1 h2)⟩
/-- Both sums are one point: the outer slopes n, k of a tangent and a tangent. -/
theorem br_tt (en : Nat → α) {n k : α} (h1 : F.Z (C1.val F.toRg en)) (h2 : F.Z (C2.val F.toRg en)) (hD : ¬ F.Z (Dt.val F.toRg en)) (hQ : ¬ F.Z (Ft.val F.toRg en)) (hn : F.eq (F.mul n (Dt.val F.toRg en)) (Nt.val F.toRg en)) (hk : F.eq (F.mul k (Ft.val F.toRg en)) (Mt.val F.toRg en)) :
    F.eq (F.sub (F.sub (F.mul n n) (X4.val F.toRg en)) (en 1)) (F.sub (F.sub (F.mul k k) (en 0)) (X5.val F.toRg en)) ∧
    F.eq (F.sub (F.mul n (F.sub (en 1) (F.sub (F.sub (F.mul n n) (X4.val F.toRg en)) (en 1)))) (Y3.val F.toRg en)) (F.sub (F.mul k (F.sub (en 0) (F.sub (F.sub (F.mul n n) (X4.val F.toRg en)) (en 1)))) (Y1.val F.toRg en)) :=
  ⟨brx F hn hk hD hQ (zid F en id_xtt h1 h2), bry F hn hk hD hQ (zid F en id_ytt h1 h2)⟩
end
end Go.Proofs.YtgdimcnokagddaaDoor.Ec

/-
  Own text. Chords and tangents of y y = x x x + b: slopes, sums, (-B) + (A + B) = A. In any field. Speaks of no program.
-/
namespace Go.Proofs.YtgdimcnokagddaaDoor.Ec
set_option linter.unusedVariables false
set_option maxRecDepth 100000
open Go Go.Proofs.YtgdimcnokagddaaDoor.Ring
section
variable {α : Type} (F : Fd α)
/-- A chord meets the second relation, times x1 - x2. -/
theorem chord_z {l x1 y1 x2 y2 b : α} (h1 : F.Z (F.sub (F.mul y1 y1) (F.add (F.mul (F.mul x1 x1) x1) b))) (h2 : F.Z (F.sub (F.mul y2 y2) (F.add (F.mul (F.mul x2 x2) x2) b))) (h3 : F.Z (F.sub (F.sub y1 y2) (F.mul l (F.sub x1 x2)))) : F.Z (F.mul (F.sub (F.mul l (F.add y1 y2)) (F.add (F.add (F.mul x1 x1) (F.mul x1 x2)) (F.mul x2 x2))) (F.sub x1 x2)) := by
  have e : (F.mul (F.sub (F.mul l (F.add y1 y2)) (F.add (F.add (F.mul x1 x1) (F.mul x1 x2)) (F.mul x2 x2))) (F.sub x1 x2)) = (F.add (F.add (F.mul (F.mul (F.int 1) (F.int 1)) (F.sub (F.mul y1 y1) (F.add (F.mul (F.mul x1 x1) x1) b))) (F.mul (F.int (-1)) (F.sub (F.mul y2 y2) (F.add (F.mul (F.mul x2 x2) x2) b)))) (F.mul (F.mul (F.int (-1)) (F.add y1 y2)) (F.sub (F.sub y1 y2) (F.mul l (F.sub x1 x2))))) := F.eq_of (fun k_ => match k_ with | 0 => l | 1 => x1 | 2 => y1 | 3 => x2 | 4 => y2 | _ => b) (e := (.m (.s (.m (.v 0) (.a (.v 2) (.v 4))) (.a (.a (.m (.v 1) (.v 1)) (.m (.v 1) (.v 3))) (.m (.v 3) (.v 3)))) (.s (.v 1) (.v 3)))) (f := (.a (.a (.m (.m (.n 1) (.n 1)) (.s (.m (.v 2) (.v 2)) (.a (.m (.m (.v 1) (.v 1)) (.v 1)) (.v 5)))) (.m (.n (-1)) (.s (.m (.v 4) (.v 4)) (.a (.m (.m (.v 3) (.v 3)) (.v 3)) (.v 5))))) (.m (.m (.n (-1)) (.a (.v 2) (.v 4))) (.s (.s (.v 2) (.v 4)) (.m (.v 0) (.s (.v 1) (.v 3))))))) rfl rfl (by decide +kernel)
  rw [e]
  exact (F.za (F.za (F.zm' _ h1) (F.zm' _ h2)) (F.zm' _ h3))
/-- The sum is on the curve. -/
theorem third_on {l x1 y1 x2 y2 b : α} (h1 : F.Z (F.sub (F.mul y1 y1) (F.add (F.mul (F.mul x1 x1) x1) b))) (h3 : F.Z (F.sub (F.sub y1 y2) (F.mul l (F.sub x1 x2)))) (hc : F.Z (F.sub (F.mul l (F.add y1 y2)) (F.add (F.add (F.mul x1 x1) (F.mul x1 x2)) (F.mul x2 x2)))) : F.Z (F.sub (F.mul (F.sub (F.mul l (F.sub x1 (F.sub (F.sub (F.mul l l) x1) x2))) y1) (F.sub (F.mul l (F.sub x1 (F.sub (F.sub (F.mul l l) x1) x2))) y1)) (F.add (F.mul (F.mul (F.sub (F.sub (F.mul l l) x1) x2) (F.sub (F.sub (F.mul l l) x1) x2)) (F.sub (F.sub (F.mul l l) x1) x2)) b)) := by
  have e : (F.sub (F.mul (F.sub (F.mul l (F.sub x1 (F.sub (F.sub (F.mul l l) x1) x2))) y1) (F.sub (F.mul l (F.sub x1 (F.sub (F.sub (F.mul l l) x1) x2))) y1)) (F.add (F.mul (F.mul (F.sub (F.sub (F.mul l l) x1) x2) (F.sub (F.sub (F.mul l l) x1) x2)) (F.sub (F.sub (F.mul l l) x1) x2)) b)) = (F.add (F.add (F.mul (F.int 1) (F.sub (F.mul y1 y1) (F.add (F.mul (F.mul x1 x1) x1) b))) (F.mul (F.add (F.add (F.mul (F.mul l l) l) (F.mul (F.mul (F.int (-1)) l) x2)) (F.mul (F.mul (F.int (-2)) l) x1)) (F.sub (F.sub y1 y2) (F.mul l (F.sub x1 x2))))) (F.mul (F.add (F.add (F.mul l l) (F.mul (F.int (-1)) x2)) (F.mul (F.int (-2)) x1)) (F.sub (F.mul l (F.add y1 y2)) (F.add (F.add (F.mul x1 x1) (F.mul x1 x2)) (F.mul x2 x2))))) := F.eq_of (fun k_ => match k_ with | 0 => l | 1 => x1 | 2 => y1 | 3 => x2 | 4 => y2 | _ => b) (e := (.s (.m (.s (.m (.v 0) (.s (.v 1) (.s (.s (.m (.v 0) (.v 0)) (.v 1)) (.v 3)))) (.v 2)) (.s (.m (.v 0) (.s (.v 1) (.s (.s (.m (.v 0) (.v 0)) (.v 1)) (.v 3)))) (.v 2))) (.a (.m (.m (.s (.s (.m (.v 0) (.v 0)) (.v 1)) (.v 3)) (.s (.s (.m (.v 0) (.v 0)) (.v 1)) (.v 3))) (.s (.s (.m (.v 0) (.v 0)) (.v 1)) (.v 3))) (.v 5)))) (f := (.a (.a (.m (.n 1) (.s (.m (.v 2) (.v 2)) (.a (.m (.m (.v 1) (.v 1)) (.v 1)) (.v 5)))) (.m (.a (.a (.m (.m (.v 0) (.v 0)) (.v 0)) (.m (.m (.n (-1)) (.v 0)) (.v 3))) (.m (.m (.n (-2)) (.v 0)) (.v 1))) (.s (.s (.v 2) (.v 4)) (.m (.v 0) (.s (.v 1) (.v 3)))))) (.m (.a (.a (.m (.v 0) (.v 0)) (.m (.n (-1)) (.v 3))) (.m (.n (-2)) (.v 1))) (.s (.m (.v 0) (.a (.v 2) (.v 4))) (.a (.a (.m (.v 1) (.v 1)) (.m (.v 1) (.v 3))) (.m (.v 3) (.v 3))))))) rfl rfl (by decide +kernel)
  rw [e]
  exact (F.za (F.za (F.zm' _ h1) (F.zm' _ h3)) (F.zm' _ hc))
/-- The line through the second point's opposite and the sum has the opposite slope .. -/
theorem back_3 {l x1 y1 x2 y2 b : α} (h1 : F.Z (F.sub (F.mul y1 y1) (F.add (F.mul (F.mul x1 x1) x1) b))) (h3 : F.Z (F.sub (F.sub y1 y2) (F.mul l (F.sub x1 x2)))) (hc : F.Z (F.sub (F.mul l (F.add y1 y2)) (F.add (F.add (F.mul x1 x1) (F.mul x1 x2)) (F.mul x2 x2)))) : F.Z (F.sub (F.sub (F.sub (F.int 0) y2) (F.sub (F.mul l (F.sub x1 (F.sub (F.sub (F.mul l l) x1) x2))) y1)) (F.mul (F.sub (F.int 0) l) (F.sub x2 (F.sub (F.sub (F.mul l l) x1) x2)))) := by
  have e : (F.sub (F.sub (F.sub (F.int 0) y2) (F.sub (F.mul l (F.sub x1 (F.sub (F.sub (F.mul l l) x1) x2))) y1)) (F.mul (F.sub (F.int 0) l) (F.sub x2 (F.sub (F.sub (F.mul l l) x1) x2)))) = (F.mul (F.int 1) (F.sub (F.sub y1 y2) (F.mul l (F.sub x1 x2)))) := F.eq_of (fun k_ => match k_ with | 0 => l | 1 => x1 | 2 => y1 | 3 => x2 | 4 => y2 | _ => b) (e := (.s (.s (.s (.n 0) (.v 4)) (.s (.m (.v 0) (.s (.v 1) (.s (.s (.m (.v 0) (.v 0)) (.v 1)) (.v 3)))) (.v 2))) (.m (.s (.n 0) (.v 0)) (.s (.v 3) (.s (.s (.m (.v 0) (.v 0)) (.v 1)) (.v 3)))))) (f := (.m (.n 1) (.s (.s (.v 2) (.v 4)) (.m (.v 0) (.s (.v 1) (.v 3)))))) rfl rfl (by decide +kernel)
  rw [e]
  exact (F.zm' _ h3)
/-- .. and meets the second relation .. -/
theorem back_c {l x1 y1 x2 y2 b : α} (h1 : F.Z (F.sub (F.mul y1 y1) (F.add (F.mul (F.mul x1 x1) x1) b))) (h3 : F.Z (F.sub (F.sub y1 y2) (F.mul l (F.sub x1 x2)))) (hc : F.Z (F.sub (F.mul l (F.add y1 y2)) (F.add (F.add (F.mul x1 x1) (F.mul x1 x2)) (F.mul x2 x2)))) : F.Z (F.sub (F.mul (F.sub (F.int 0) l) (F.add (F.sub (F.int 0) y2) (F.sub (F.mul l (F.sub x1 (F.sub (F.sub (F.mul l l) x1) x2))) y1))) (F.add (F.add (F.mul x2 x2) (F.mul x2 (F.sub (F.sub (F.mul l l) x1) x2))) (F.mul (F.sub (F.sub (F.mul l l) x1) x2) (F.sub (F.sub (F.mul l l) x1) x2)))) := by
  have e : (F.sub (F.mul (F.sub (F.int 0) l) (F.add (F.sub (F.int 0) y2) (F.sub (F.mul l (F.sub x1 (F.sub (F.sub (F.mul l l) x1) x2))) y1))) (F.add (F.add (F.mul x2 x2) (F.mul x2 (F.sub (F.sub (F.mul l l) x1) x2))) (F.mul (F.sub (F.sub (F.mul l l) x1) x2) (F.sub (F.sub (F.mul l l) x1) x2)))) = (F.mul (F.int 1) (F.sub (F.mul l (F.add y1 y2)) (F.add (F.add (F.mul x1 x1) (F.mul x1 x2)) (F.mul x2 x2)))) := F.eq_of (fun k_ => match k_ with | 0 => l | 1 => x1 | 2 => y1 | 3 => x2 | 4 => y2 | _ => b) (e := (.s (.m (.s (.n 0) (.v 0)) (.a (.s (.n 0) (.v 4)) (.s (.m (.v 0) (.s (.v 1) (.s (.s (.m (.v 0) (.v 0)) (.v 1)) (.v 3)))) (.v 2)))) (.a (.a (.m (.v 3) (.v 3)) (.m (.v 3) (.s (.s (.m (.v 0) (.v 0)) (.v 1)) (.v 3)))) (.m (.s (.s (.m (.v 0) (.v 0)) (.v 1)) (.v 3)) (.s (.s (.m (.v 0) (.v 0)) (.v 1)) (.v 3)))))) (f := (.m (.n 1) (.s (.m (.v 0) (.a (.v 2) (.v 4))) (.a (.a (.m (.v 1) (.v 1)) (.m (.v 1) (.v 3))) (.m (.v 3) (.v 3)))))) rfl rfl (by decide +kernel)
  rw [e]
  exact (F.zm' _ hc)
/-- .. and its third point is the first one's opposite's .. -/
theorem back_x {l x1 y1 x2 y2 b : α} (h1 : F.Z (F.sub (F.mul y1 y1) (F.add (F.mul (F.mul x1 x1) x1) b))) (h3 : F.Z (F.sub (F.sub y1 y2) (F.mul l (F.sub x1 x2)))) (hc : F.Z (F.sub (F.mul l (F.add y1 y2)) (F.add (F.add (F.mul x1 x1) (F.mul x1 x2)) (F.mul x2 x2)))) : F.Z (F.sub (F.sub (F.sub (F.mul (F.sub (F.int 0) l) (F.sub (F.int 0) l)) x2) (F.sub (F.sub (F.mul l l) x1) x2)) x1) := by
  have e : (F.sub (F.sub (F.sub (F.mul (F.sub (F.int 0) l) (F.sub (F.int 0) l)) x2) (F.sub (F.sub (F.mul l l) x1) x2)) x1) = (F.int 0) := F.eq_of (fun k_ => match k_ with | 0 => l | 1 => x1 | 2 => y1 | 3 => x2 | 4 => y2 | _ => b) (e := (.s (.s (.s (.m (.s (.n 0) (.v 0)) (.s (.n 0) (.v 0))) (.v 3)) (.s (.s (.m (.v 0) (.v 0)) (.v 1)) (.v 3))) (.v 1))) (f := (.n 0)) rfl rfl (by decide +kernel)
  rw [e]
  exact F.z0
/-- .. opposite: so their sum is the first point. -/
theorem back_y {l x1 y1 x2 y2 b : α} (h1 : F.Z (F.sub (F.mul y1 y1) (F.add (F.mul (F.mul x1 x1) x1) b))) (h3 : F.Z (F.sub (F.sub y1 y2) (F.mul l (F.sub x1 x2)))) (hc : F.Z (F.sub (F.mul l (F.add y1 y2)) (F.add (F.add (F.mul x1 x1) (F.mul x1 x2)) (F.mul x2 x2)))) : F.Z (F.sub (F.sub (F.mul (F.sub (F.int 0) l) (F.sub x2 x1)) (F.sub (F.int 0) y2)) y1) := by
  have e : (F.sub (F.sub (F.mul (F.sub (F.int 0) l) (F.sub x2 x1)) (F.sub (F.int 0) y2)) y1) = (F.mul (F.int (-1)) (F.sub (F.sub y1 y2) (F.mul l (F.sub x1 x2)))) := F.eq_of (fun k_ => match k_ with | 0 => l | 1 => x1 | 2 => y1 | 3 => x2 | 4 => y2 | _ => b) (e := (.s (.s (.m (.s (.n 0) (.v 0)) (.s (.v 3) (.v 1))) (.s (.n 0) (.v 4))) (.v 2))) (f := (.m (.n (-1)) (.s (.s (.v 2) (.v 4)) (.m (.v 0) (.s (.v 1) (.v 3)))))) rfl rfl (by decide +kernel)
  rw [e]
  exact (F.zm' _ h3)
end
end Go.Proofs.YtgdimcnokagddaaDoor.Ec

/-
  Own text. The slope of two points of y y = x x x + b that are not opposite: chord and tangent alike; there is one, and only one. In any field. Speaks of no program.
-/
namespace Go.Proofs.YtgdimcnokagddaaDoor.Ec
set_option linter.unusedVariables false
set_option maxRecDepth 100000
open Go Go.Proofs.YtgdimcnokagddaaDoor.Ring
section
variable {α : Type} (F : Fd α)
theorem slope_ux {l m x1 y1 x2 y2 : α} (h3 : F.Z (F.sub (F.sub y1 y2) (F.mul l (F.sub x1 x2)))) (k3 : F.Z (F.sub (F.sub y1 y2) (F.mul m (F.sub x1 x2)))) : F.Z (F.mul (F.sub l m) (F.sub x1 x2)) := by
  have e : (F.mul (F.sub l m) (F.sub x1 x2)) = (F.add (F.mul (F.int (-1)) (F.sub (F.sub y1 y2) (F.mul l (F.sub x1 x2)))) (F.mul (F.int 1) (F.sub (F.sub y1 y2) (F.mul m (F.sub x1 x2))))) := F.eq_of (fun k_ => match k_ with | 0 => l | 1 => m | 2 => l | 3 => x1 | 4 => y1 | 5 => x2 | 6 => y2 | _ => l) (e := (.m (.s (.v 0) (.v 1)) (.s (.v 3) (.v 5)))) (f := (.a (.m (.n (-1)) (.s (.s (.v 4) (.v 6)) (.m (.v 0) (.s (.v 3) (.v 5))))) (.m (.n 1) (.s (.s (.v 4) (.v 6)) (.m (.v 1) (.s (.v 3) (.v 5))))))) rfl rfl (by decide +kernel)
  rw [e]
  exact (F.za (F.zm' _ h3) (F.zm' _ k3))
theorem slope_uy {l m x1 y1 x2 y2 : α} (hc : F.Z (F.sub (F.mul l (F.add y1 y2)) (F.add (F.add (F.mul x1 x1) (F.mul x1 x2)) (F.mul x2 x2)))) (kc : F.Z (F.sub (F.mul m (F.add y1 y2)) (F.add (F.add (F.mul x1 x1) (F.mul x1 x2)) (F.mul x2 x2)))) : F.Z (F.mul (F.sub l m) (F.add y1 y2)) := by
  have e : (F.mul (F.sub l m) (F.add y1 y2)) = (F.add (F.mul (F.int 1) (F.sub (F.mul l (F.add y1 y2)) (F.add (F.add (F.mul x1 x1) (F.mul x1 x2)) (F.mul x2 x2)))) (F.mul (F.int (-1)) (F.sub (F.mul m (F.add y1 y2)) (F.add (F.add (F.mul x1 x1) (F.mul x1 x2)) (F.mul x2 x2))))) := F.eq_of (fun k_ => match k_ with | 0 => l | 1 => m | 2 => l | 3 => x1 | 4 => y1 | 5 => x2 | 6 => y2 | _ => l) (e := (.m (.s (.v 0) (.v 1)) (.a (.v 4) (.v 6)))) (f := (.a (.m (.n 1) (.s (.m (.v 0) (.a (.v 4) (.v 6))) (.a (.a (.m (.v 3) (.v 3)) (.m (.v 3) (.v 5))) (.m (.v 5) (.v 5))))) (.m (.n (-1)) (.s (.m (.v 1) (.a (.v 4) (.v 6))) (.a (.a (.m (.v 3) (.v 3)) (.m (.v 3) (.v 5))) (.m (.v 5) (.v 5))))))) rfl rfl (by decide +kernel)
  rw [e]
  exact (F.za (F.zm' _ hc) (F.zm' _ kc))
theorem slope_y {x1 y1 x2 y2 b : α} (h1 : F.Z (F.sub (F.mul y1 y1) (F.add (F.mul (F.mul x1 x1) x1) b))) (h2 : F.Z (F.sub (F.mul y2 y2) (F.add (F.mul (F.mul x2 x2) x2) b))) (hx : F.Z (F.sub x1 x2)) : F.Z (F.mul (F.sub y1 y2) (F.add y1 y2)) := by
  have e : (F.mul (F.sub y1 y2) (F.add y1 y2)) = (F.add (F.add (F.mul (F.int 1) (F.sub (F.mul y1 y1) (F.add (F.mul (F.mul x1 x1) x1) b))) (F.mul (F.int (-1)) (F.sub (F.mul y2 y2) (F.add (F.mul (F.mul x2 x2) x2) b)))) (F.mul (F.add (F.add (F.mul x1 x1) (F.mul x1 x2)) (F.mul x2 x2)) (F.sub x1 x2))) := F.eq_of (fun k_ => match k_ with | 0 => x1 | 1 => x1 | 2 => x1 | 3 => x1 | 4 => y1 | 5 => x2 | 6 => y2 | _ => b) (e := (.m (.s (.v 4) (.v 6)) (.a (.v 4) (.v 6)))) (f := (.a (.a (.m (.n 1) (.s (.m (.v 4) (.v 4)) (.a (.m (.m (.v 3) (.v 3)) (.v 3)) (.v 7)))) (.m (.n (-1)) (.s (.m (.v 6) (.v 6)) (.a (.m (.m (.v 5) (.v 5)) (.v 5)) (.v 7))))) (.m (.a (.a (.m (.v 3) (.v 3)) (.m (.v 3) (.v 5))) (.m (.v 5) (.v 5))) (.s (.v 3) (.v 5))))) rfl rfl (by decide +kernel)
  rw [e]
  exact (F.za (F.za (F.zm' _ h1) (F.zm' _ h2)) (F.zm' _ hx))
theorem slope_tc {i x1 y1 x2 y2 : α} (hi : F.Z (F.add (F.mul (F.add y1 y2) i) (F.int (-1)))) : F.Z (F.sub (F.mul (F.mul (F.add (F.add (F.mul x1 x1) (F.mul x1 x2)) (F.mul x2 x2)) i) (F.add y1 y2)) (F.add (F.add (F.mul x1 x1) (F.mul x1 x2)) (F.mul x2 x2))) := by
  have e : (F.sub (F.mul (F.mul (F.add (F.add (F.mul x1 x1) (F.mul x1 x2)) (F.mul x2 x2)) i) (F.add y1 y2)) (F.add (F.add (F.mul x1 x1) (F.mul x1 x2)) (F.mul x2 x2))) = (F.mul (F.add (F.add (F.mul x1 x1) (F.mul x1 x2)) (F.mul x2 x2)) (F.add (F.mul (F.add y1 y2) i) (F.int (-1)))) := F.eq_of (fun k_ => match k_ with | 0 => i | 1 => i | 2 => i | 3 => x1 | 4 => y1 | 5 => x2 | 6 => y2 | _ => i) (e := (.s (.m (.m (.a (.a (.m (.v 3) (.v 3)) (.m (.v 3) (.v 5))) (.m (.v 5) (.v 5))) (.v 2)) (.a (.v 4) (.v 6))) (.a (.a (.m (.v 3) (.v 3)) (.m (.v 3) (.v 5))) (.m (.v 5) (.v 5))))) (f := (.m (.a (.a (.m (.v 3) (.v 3)) (.m (.v 3) (.v 5))) (.m (.v 5) (.v 5))) (.a (.m (.a (.v 4) (.v 6)) (.v 2)) (.n (-1))))) rfl rfl (by decide +kernel)
  rw [e]
  exact (F.zm' _ hi)
theorem slope_t3 {l x1 y1 x2 y2 : α} (hy : F.Z (F.sub y1 y2)) (hx : F.Z (F.sub x1 x2)) : F.Z (F.sub (F.sub y1 y2) (F.mul l (F.sub x1 x2))) := by
  have e : (F.sub (F.sub y1 y2) (F.mul l (F.sub x1 x2))) = (F.add (F.mul (F.int 1) (F.sub y1 y2)) (F.mul (F.mul (F.int (-1)) l) (F.sub x1 x2))) := F.eq_of (fun k_ => match k_ with | 0 => l | 1 => l | 2 => l | 3 => x1 | 4 => y1 | 5 => x2 | 6 => y2 | _ => l) (e := (.s (.s (.v 4) (.v 6)) (.m (.v 0) (.s (.v 3) (.v 5))))) (f := (.a (.m (.n 1) (.s (.v 4) (.v 6))) (.m (.m (.n (-1)) (.v 0)) (.s (.v 3) (.v 5))))) rfl rfl (by decide +kernel)
  rw [e]
  exact (F.za (F.zm' _ hy) (F.zm' _ hx))
theorem slope_c3 {i x1 y1 x2 y2 : α} (hi : F.Z (F.add (F.mul (F.sub x1 x2) i) (F.int (-1)))) : F.Z (F.sub (F.sub y1 y2) (F.mul (F.mul (F.sub y1 y2) i) (F.sub x1 x2))) := by
  have e : (F.sub (F.sub y1 y2) (F.mul (F.mul (F.sub y1 y2) i) (F.sub x1 x2))) = (F.mul (F.mul (F.int (-1)) (F.sub y1 y2)) (F.add (F.mul (F.sub x1 x2) i) (F.int (-1)))) := F.eq_of (fun k_ => match k_ with | 0 => i | 1 => i | 2 => i | 3 => x1 | 4 => y1 | 5 => x2 | 6 => y2 | _ => i) (e := (.s (.s (.v 4) (.v 6)) (.m (.m (.s (.v 4) (.v 6)) (.v 2)) (.s (.v 3) (.v 5))))) (f := (.m (.m (.n (-1)) (.s (.v 4) (.v 6))) (.a (.m (.s (.v 3) (.v 5)) (.v 2)) (.n (-1))))) rfl rfl (by decide +kernel)
  rw [e]
  exact (F.zm' _ hi)
/-- l is the slope of (x1, y1) and (x2, y2). -/
structure Slope (l x1 y1 x2 y2 : α) : Prop where
  c3 : F.Z (F.sub (F.sub y1 y2) (F.mul l (F.sub x1 x2)))
  cc : F.Z (F.sub (F.mul l (F.add y1 y2)) (F.add (F.add (F.mul x1 x1) (F.mul x1 x2)) (F.mul x2 x2)))
/-- (x, y) is on the curve. -/
def On (b x y : α) : Prop := F.Z (F.sub (F.mul y y) (F.add (F.mul (F.mul x x) x) b))
/-- The points are opposite. -/
def Opp (x1 y1 x2 y2 : α) : Prop := F.Z (F.sub x1 x2) ∧ F.Z (F.add y1 y2)
theorem slope_ex {x1 y1 x2 y2 b : α} (h1 : On F b x1 y1) (h2 : On F b x2 y2) (ho : ¬ Opp F x1 y1 x2 y2) : ∃ l, Slope F l x1 y1 x2 y2 := by
  by_cases hx : F.Z (F.sub x1 x2)
  · have hy : ¬ F.Z (F.add y1 y2) := fun h => ho ⟨hx, h⟩
    have hd := (F.zd (slope_y F h1 h2 hx)).resolve_right hy
    exact ⟨_, slope_t3 F hd hx, slope_tc F (F.zi hy)⟩
  · have h3 := slope_c3 (y1 := y1) (y2 := y2) F (F.zi hx)
    exact ⟨_, h3, (F.zd (chord_z F h1 h2 h3)).resolve_right hx⟩
theorem slope_un {l m x1 y1 x2 y2 : α} (h : Slope F l x1 y1 x2 y2) (k : Slope F m x1 y1 x2 y2) (ho : ¬ Opp F x1 y1 x2 y2) : F.eq l m := by
  rcases F.zd (slope_ux F h.c3 k.c3) with hz | hx
  · exact hz
  rcases F.zd (slope_uy F h.cc k.cc) with hz | hy
  · exact hz
  exact absurd ⟨hx, hy⟩ ho
end
end Go.Proofs.YtgdimcnokagddaaDoor.Ec

/-
  Own text. Sums of points of y y = x x x + b as a relation, up to how numbers are written. In any field. Speaks of no program.
-/
namespace Go.Proofs.YtgdimcnokagddaaDoor.Ec
set_option linter.unusedVariables false
set_option maxRecDepth 100000
open Go Go.Proofs.YtgdimcnokagddaaDoor.Ring
section
variable {α : Type} (F : Fd α)
abbrev Pt (α : Type) := Option (α × α)
def OnP (b : α) : Pt α → Prop
  | none => True
  | some (x, y) => On F b x y
def EqP : Pt α → Pt α → Prop
  | none, none => True
  | some (x, y), some (x', y') => F.eq x x' ∧ F.eq y y'
  | _, _ => False
def negP : Pt α → Pt α
  | none => none
  | some (x, y) => some (x, F.sub (F.int 0) y)
def Xs (l x1 x2 : α) : α := F.sub (F.sub (F.mul l l) x1) x2
def Ys (l x1 y1 x3 : α) : α := F.sub (F.mul l (F.sub x1 x3)) y1
inductive Sum : Pt α → Pt α → Pt α → Prop
  | zl {B C} : EqP F B C → Sum none B C
  | zr {A C} : EqP F A C → Sum A none C
  | op {x1 y1 x2 y2} : Opp F x1 y1 x2 y2 → Sum (some (x1, y1)) (some (x2, y2)) none
  | sl {x1 y1 x2 y2 l x3 y3} : ¬ Opp F x1 y1 x2 y2 → Slope F l x1 y1 x2 y2 → F.eq x3 (Xs F l x1 x2) → F.eq y3 (Ys F l x1 y1 x3) → Sum (some (x1, y1)) (some (x2, y2)) (some (x3, y3))
theorem eqP_refl (A : Pt α) : EqP F A A := by
  rcases A with _ | ⟨x, y⟩
  · trivial
  · exact ⟨F.refl _, F.refl _⟩
theorem eqP_symm {A B : Pt α} (h : EqP F A B) : EqP F B A := by
  rcases A with _ | ⟨x, y⟩ <;> rcases B with _ | ⟨x', y'⟩
  · trivial
  · exact h.elim
  · exact h.elim
  · exact ⟨F.symm h.1, F.symm h.2⟩
theorem eqP_trans {A B C : Pt α} (h : EqP F A B) (k : EqP F B C) : EqP F A C := by
  rcases A with _ | ⟨x, y⟩ <;> rcases B with _ | ⟨x', y'⟩ <;> rcases C with _ | ⟨x'', y''⟩
  all_goals first | trivial | exact h.elim | exact k.elim | exact ⟨F.trans h.1 k.1, F.trans h.2 k.2⟩
theorem Xs_eq {l l' x1 x1' x2 x2' : α} (hl : F.eq l l') (h1 : F.eq x1 x1') (h2 : F.eq x2 x2') : F.eq (Xs F l x1 x2) (Xs F l' x1' x2') :=
  F.sub_eq (F.sub_eq (F.mul_eq hl hl) h1) h2
theorem Ys_eq {l l' x1 x1' y1 y1' x3 x3' : α} (hl : F.eq l l') (h1 : F.eq x1 x1') (k1 : F.eq y1 y1') (h3 : F.eq x3 x3') : F.eq (Ys F l x1 y1 x3) (Ys F l' x1' y1' x3') :=
  F.sub_eq (F.mul_eq hl (F.sub_eq h1 h3)) k1
theorem on_eq {b x y x' y' : α} (hx : F.eq x x') (hy : F.eq y y') (h : On F b x y) : On F b x' y' :=
  F.Z_of (F.sub_eq (F.mul_eq hy hy) (F.add_eq (F.mul_eq (F.mul_eq hx hx) hx) (F.refl b))) h
theorem onP_eq {b : α} {A B : Pt α} (e : EqP F A B) (h : OnP F b A) : OnP F b B := by
  rcases A with _ | ⟨x, y⟩ <;> rcases B with _ | ⟨x', y'⟩
  all_goals first | trivial | exact e.elim | exact on_eq F e.1 e.2 h
theorem opp_eq {x1 y1 x2 y2 x1' y1' x2' y2' : α} (h1 : F.eq x1 x1') (k1 : F.eq y1 y1') (h2 : F.eq x2 x2') (k2 : F.eq y2 y2') (h : Opp F x1 y1 x2 y2) : Opp F x1' y1' x2' y2' :=
  ⟨F.Z_of (F.sub_eq h1 h2) h.1, F.Z_of (F.add_eq k1 k2) h.2⟩
theorem slope_eq {l x1 y1 x2 y2 l' x1' y1' x2' y2' : α} (hl : F.eq l l') (h1 : F.eq x1 x1') (k1 : F.eq y1 y1') (h2 : F.eq x2 x2') (k2 : F.eq y2 y2') (h : Slope F l x1 y1 x2 y2) : Slope F l' x1' y1' x2' y2' :=
  ⟨F.Z_of (F.sub_eq (F.sub_eq k1 k2) (F.mul_eq hl (F.sub_eq h1 h2))) h.c3,
   F.Z_of (F.sub_eq (F.mul_eq hl (F.add_eq k1 k2)) (F.add_eq (F.add_eq (F.mul_eq h1 h1) (F.mul_eq h1 h2)) (F.mul_eq h2 h2))) h.cc⟩
/-- A sum hangs on the points alone, not on how they are written. -/
theorem sum_eq {A B C A' B' C' : Pt α} (a : EqP F A A') (e : EqP F B B') (c : EqP F C C') (h : Sum F A B C) : Sum F A' B' C' := by
  cases h with
  | zl h =>
    rcases A' with _ | ⟨x', y'⟩
    · exact .zl (eqP_trans F (eqP_trans F (eqP_symm F e) h) c)
    · exact a.elim
  | zr h =>
    rcases B' with _ | ⟨x', y'⟩
    · exact .zr (eqP_trans F (eqP_trans F (eqP_symm F a) h) c)
    · exact e.elim
  | op h =>
    rcases A' with _ | ⟨u1, v1⟩
    · exact a.elim
    rcases B' with _ | ⟨u2, v2⟩
    · exact e.elim
    rcases C' with _ | ⟨u3, v3⟩
    · exact .op (opp_eq F a.1 a.2 e.1 e.2 h)
    · exact c.elim
  | sl ho hs h3 k3 =>
    rcases A' with _ | ⟨u1, v1⟩
    · exact a.elim
    rcases B' with _ | ⟨u2, v2⟩
    · exact e.elim
    rcases C' with _ | ⟨u3, v3⟩
    · exact c.elim
    refine .sl (fun h => ho (opp_eq F (F.symm a.1) (F.symm a.2) (F.symm e.1) (F.symm e.2) h)) (slope_eq F (F.refl _) a.1 a.2 e.1 e.2 hs) ?_ ?_
    · exact F.trans (F.symm c.1) (F.trans h3 (Xs_eq F (F.refl _) a.1 e.1))
    · exact F.trans (F.symm c.2) (F.trans k3 (Ys_eq F (F.refl _) a.1 a.2 c.1))
/-- Two points have one sum. -/
theorem sum_un {A B C D : Pt α} (h : Sum F A B C) (k : Sum F A B D) : EqP F C D := by
  cases h with
  | zl h =>
    cases k with
    | zl k => exact eqP_trans F (eqP_symm F h) k
    | zr k => exact eqP_trans F (eqP_symm F h) k
  | zr h =>
    cases k with
    | zl k => exact eqP_trans F (eqP_symm F h) k
    | zr k => exact eqP_trans F (eqP_symm F h) k
  | op h =>
    cases k with
    | op k => trivial
    | sl ko ks k3 l3 => exact absurd h ko
  | sl ho hs h3 m3 =>
    cases k with
    | op k => exact absurd k ho
    | sl ko ks k3 l3 =>
      have hl := slope_un F hs ks ho
      have hx := F.trans h3 (F.trans (Xs_eq F hl (F.refl _) (F.refl _)) (F.symm k3))
      exact ⟨hx, F.trans m3 (F.trans (Ys_eq F hl (F.refl _) (F.refl _) hx) (F.symm l3))⟩
/-- Points on the curve have a sum, and it is on the curve. -/
theorem sum_ex {b : α} {A B : Pt α} (h : OnP F b A) (k : OnP F b B) : ∃ C, Sum F A B C ∧ OnP F b C := by
  rcases A with _ | ⟨x1, y1⟩
  · exact ⟨B, .zl (eqP_refl F B), k⟩
  rcases B with _ | ⟨x2, y2⟩
  · exact ⟨_, .zr (eqP_refl F _), h⟩
  by_cases ho : Opp F x1 y1 x2 y2
  · exact ⟨none, .op ho, trivial⟩
  obtain ⟨l, hs⟩ := slope_ex F h k ho
  exact ⟨some (Xs F l x1 x2, Ys F l x1 y1 (Xs F l x1 x2)), .sl ho hs (F.refl _) (F.refl _), third_on F h hs.c3 hs.cc⟩
theorem sum_on {b : α} {A B C : Pt α} (h : OnP F b A) (k : OnP F b B) (s : Sum F A B C) : OnP F b C := by
  obtain ⟨D, hD, hd⟩ := sum_ex F h k
  exact onP_eq F (sum_un F hD s) hd
end
end Go.Proofs.YtgdimcnokagddaaDoor.Ec

/-
  Own text. Sums of points: A + B = B + A, (-B) + (A + B) = A, -(A + B) = (-A) + (-B). In any field. Speaks of no program.
-/
namespace Go.Proofs.YtgdimcnokagddaaDoor.Ec
set_option linter.unusedVariables false
set_option maxRecDepth 100000
open Go Go.Proofs.YtgdimcnokagddaaDoor.Ring
section
variable {α : Type} (F : Fd α)
theorem cm_3 {l x1 y1 x2 y2 : α} (h3 : F.Z (F.sub (F.sub y1 y2) (F.mul l (F.sub x1 x2)))) : F.Z (F.sub (F.sub y2 y1) (F.mul l (F.sub x2 x1))) := by
  have e : (F.sub (F.sub y2 y1) (F.mul l (F.sub x2 x1))) = (F.mul (F.int (-1)) (F.sub (F.sub y1 y2) (F.mul l (F.sub x1 x2)))) := F.eq_of (fun k_ => match k_ with | 0 => l | 1 => x1 | 2 => y1 | 3 => x2 | 4 => y2 | 5 => l | 6 => l | _ => l) (e := (.s (.s (.v 4) (.v 2)) (.m (.v 0) (.s (.v 3) (.v 1))))) (f := (.m (.n (-1)) (.s (.s (.v 2) (.v 4)) (.m (.v 0) (.s (.v 1) (.v 3)))))) rfl rfl (by decide +kernel)
  rw [e]
  exact (F.zm' _ h3)
theorem cm_c {l x1 y1 x2 y2 : α} (hc : F.Z (F.sub (F.mul l (F.add y1 y2)) (F.add (F.add (F.mul x1 x1) (F.mul x1 x2)) (F.mul x2 x2)))) : F.Z (F.sub (F.mul l (F.add y2 y1)) (F.add (F.add (F.mul x2 x2) (F.mul x2 x1)) (F.mul x1 x1))) := by
  have e : (F.sub (F.mul l (F.add y2 y1)) (F.add (F.add (F.mul x2 x2) (F.mul x2 x1)) (F.mul x1 x1))) = (F.mul (F.int 1) (F.sub (F.mul l (F.add y1 y2)) (F.add (F.add (F.mul x1 x1) (F.mul x1 x2)) (F.mul x2 x2)))) := F.eq_of (fun k_ => match k_ with | 0 => l | 1 => x1 | 2 => y1 | 3 => x2 | 4 => y2 | 5 => l | 6 => l | _ => l) (e := (.s (.m (.v 0) (.a (.v 4) (.v 2))) (.a (.a (.m (.v 3) (.v 3)) (.m (.v 3) (.v 1))) (.m (.v 1) (.v 1))))) (f := (.m (.n 1) (.s (.m (.v 0) (.a (.v 2) (.v 4))) (.a (.a (.m (.v 1) (.v 1)) (.m (.v 1) (.v 3))) (.m (.v 3) (.v 3)))))) rfl rfl (by decide +kernel)
  rw [e]
  exact (F.zm' _ hc)
theorem cm_x {l x1 x2 x3 : α} (k : F.Z (F.sub x3 (F.sub (F.sub (F.mul l l) x1) x2))) : F.Z (F.sub x3 (F.sub (F.sub (F.mul l l) x2) x1)) := by
  have e : (F.sub x3 (F.sub (F.sub (F.mul l l) x2) x1)) = (F.mul (F.int 1) (F.sub x3 (F.sub (F.sub (F.mul l l) x1) x2))) := F.eq_of (fun k_ => match k_ with | 0 => l | 1 => x1 | 2 => l | 3 => x2 | 4 => l | 5 => x3 | 6 => l | _ => l) (e := (.s (.v 5) (.s (.s (.m (.v 0) (.v 0)) (.v 3)) (.v 1)))) (f := (.m (.n 1) (.s (.v 5) (.s (.s (.m (.v 0) (.v 0)) (.v 1)) (.v 3))))) rfl rfl (by decide +kernel)
  rw [e]
  exact (F.zm' _ k)
theorem cm_y {l x1 y1 x2 y2 x3 y3 : α} (k : F.Z (F.sub y3 (F.sub (F.mul l (F.sub x1 x3)) y1))) (h3 : F.Z (F.sub (F.sub y1 y2) (F.mul l (F.sub x1 x2)))) : F.Z (F.sub y3 (F.sub (F.mul l (F.sub x2 x3)) y2)) := by
  have e : (F.sub y3 (F.sub (F.mul l (F.sub x2 x3)) y2)) = (F.add (F.mul (F.int 1) (F.sub y3 (F.sub (F.mul l (F.sub x1 x3)) y1))) (F.mul (F.int (-1)) (F.sub (F.sub y1 y2) (F.mul l (F.sub x1 x2))))) := F.eq_of (fun k_ => match k_ with | 0 => l | 1 => x1 | 2 => y1 | 3 => x2 | 4 => y2 | 5 => x3 | 6 => y3 | _ => l) (e := (.s (.v 6) (.s (.m (.v 0) (.s (.v 3) (.v 5))) (.v 4)))) (f := (.a (.m (.n 1) (.s (.v 6) (.s (.m (.v 0) (.s (.v 1) (.v 5))) (.v 2)))) (.m (.n (-1)) (.s (.s (.v 2) (.v 4)) (.m (.v 0) (.s (.v 1) (.v 3))))))) rfl rfl (by decide +kernel)
  rw [e]
  exact (F.za (F.zm' _ k) (F.zm' _ h3))
theorem ng_3 {l x1 y1 x2 y2 : α} (h3 : F.Z (F.sub (F.sub y1 y2) (F.mul l (F.sub x1 x2)))) : F.Z (F.sub (F.sub (F.sub (F.int 0) y1) (F.sub (F.int 0) y2)) (F.mul (F.sub (F.int 0) l) (F.sub x1 x2))) := by
  have e : (F.sub (F.sub (F.sub (F.int 0) y1) (F.sub (F.int 0) y2)) (F.mul (F.sub (F.int 0) l) (F.sub x1 x2))) = (F.mul (F.int (-1)) (F.sub (F.sub y1 y2) (F.mul l (F.sub x1 x2)))) := F.eq_of (fun k_ => match k_ with | 0 => l | 1 => x1 | 2 => y1 | 3 => x2 | 4 => y2 | 5 => l | 6 => l | _ => l) (e := (.s (.s (.s (.n 0) (.v 2)) (.s (.n 0) (.v 4))) (.m (.s (.n 0) (.v 0)) (.s (.v 1) (.v 3))))) (f := (.m (.n (-1)) (.s (.s (.v 2) (.v 4)) (.m (.v 0) (.s (.v 1) (.v 3)))))) rfl rfl (by decide +kernel)
  rw [e]
  exact (F.zm' _ h3)
theorem ng_c {l x1 y1 x2 y2 : α} (hc : F.Z (F.sub (F.mul l (F.add y1 y2)) (F.add (F.add (F.mul x1 x1) (F.mul x1 x2)) (F.mul x2 x2)))) : F.Z (F.sub (F.mul (F.sub (F.int 0) l) (F.add (F.sub (F.int 0) y1) (F.sub (F.int 0) y2))) (F.add (F.add (F.mul x1 x1) (F.mul x1 x2)) (F.mul x2 x2))) := by
  have e : (F.sub (F.mul (F.sub (F.int 0) l) (F.add (F.sub (F.int 0) y1) (F.sub (F.int 0) y2))) (F.add (F.add (F.mul x1 x1) (F.mul x1 x2)) (F.mul x2 x2))) = (F.mul (F.int 1) (F.sub (F.mul l (F.add y1 y2)) (F.add (F.add (F.mul x1 x1) (F.mul x1 x2)) (F.mul x2 x2)))) := F.eq_of (fun k_ => match k_ with | 0 => l | 1 => x1 | 2 => y1 | 3 => x2 | 4 => y2 | 5 => l | 6 => l | _ => l) (e := (.s (.m (.s (.n 0) (.v 0)) (.a (.s (.n 0) (.v 2)) (.s (.n 0) (.v 4)))) (.a (.a (.m (.v 1) (.v 1)) (.m (.v 1) (.v 3))) (.m (.v 3) (.v 3))))) (f := (.m (.n 1) (.s (.m (.v 0) (.a (.v 2) (.v 4))) (.a (.a (.m (.v 1) (.v 1)) (.m (.v 1) (.v 3))) (.m (.v 3) (.v 3)))))) rfl rfl (by decide +kernel)
  rw [e]
  exact (F.zm' _ hc)
theorem ng_x {l x1 x2 x3 : α} (k : F.Z (F.sub x3 (F.sub (F.sub (F.mul l l) x1) x2))) : F.Z (F.sub x3 (F.sub (F.sub (F.mul (F.sub (F.int 0) l) (F.sub (F.int 0) l)) x1) x2)) := by
  have e : (F.sub x3 (F.sub (F.sub (F.mul (F.sub (F.int 0) l) (F.sub (F.int 0) l)) x1) x2)) = (F.mul (F.int 1) (F.sub x3 (F.sub (F.sub (F.mul l l) x1) x2))) := F.eq_of (fun k_ => match k_ with | 0 => l | 1 => x1 | 2 => l | 3 => x2 | 4 => l | 5 => x3 | 6 => l | _ => l) (e := (.s (.v 5) (.s (.s (.m (.s (.n 0) (.v 0)) (.s (.n 0) (.v 0))) (.v 1)) (.v 3)))) (f := (.m (.n 1) (.s (.v 5) (.s (.s (.m (.v 0) (.v 0)) (.v 1)) (.v 3))))) rfl rfl (by decide +kernel)
  rw [e]
  exact (F.zm' _ k)
theorem ng_y {l x1 y1 x3 y3 : α} (k : F.Z (F.sub y3 (F.sub (F.mul l (F.sub x1 x3)) y1))) : F.Z (F.sub (F.sub (F.int 0) y3) (F.sub (F.mul (F.sub (F.int 0) l) (F.sub x1 x3)) (F.sub (F.int 0) y1))) := by
  have e : (F.sub (F.sub (F.int 0) y3) (F.sub (F.mul (F.sub (F.int 0) l) (F.sub x1 x3)) (F.sub (F.int 0) y1))) = (F.mul (F.int (-1)) (F.sub y3 (F.sub (F.mul l (F.sub x1 x3)) y1))) := F.eq_of (fun k_ => match k_ with | 0 => l | 1 => x1 | 2 => y1 | 3 => l | 4 => l | 5 => x3 | 6 => y3 | _ => l) (e := (.s (.s (.n 0) (.v 6)) (.s (.m (.s (.n 0) (.v 0)) (.s (.v 1) (.v 5))) (.s (.n 0) (.v 2))))) (f := (.m (.n (-1)) (.s (.v 6) (.s (.m (.v 0) (.s (.v 1) (.v 5))) (.v 2))))) rfl rfl (by decide +kernel)
  rw [e]
  exact (F.zm' _ k)
theorem ng_o {y1 y2 : α} (k : F.Z (F.add y1 y2)) : F.Z (F.add (F.sub (F.int 0) y1) (F.sub (F.int 0) y2)) := by
  have e : (F.add (F.sub (F.int 0) y1) (F.sub (F.int 0) y2)) = (F.mul (F.int (-1)) (F.add y1 y2)) := F.eq_of (fun k_ => match k_ with | 0 => y1 | 1 => y1 | 2 => y1 | 3 => y1 | 4 => y2 | 5 => y1 | 6 => y1 | _ => y1) (e := (.a (.s (.n 0) (.v 2)) (.s (.n 0) (.v 4)))) (f := (.m (.n (-1)) (.a (.v 2) (.v 4)))) rfl rfl (by decide +kernel)
  rw [e]
  exact (F.zm' _ k)
theorem ng_i {y1 y2 : α} (k : F.Z (F.add (F.sub (F.int 0) y1) (F.sub (F.int 0) y2))) : F.Z (F.add y1 y2) := by
  have e : (F.add y1 y2) = (F.mul (F.int (-1)) (F.add (F.sub (F.int 0) y1) (F.sub (F.int 0) y2))) := F.eq_of (fun k_ => match k_ with | 0 => y1 | 1 => y1 | 2 => y1 | 3 => y1 | 4 => y2 | 5 => y1 | 6 => y1 | _ => y1) (e := (.a (.v 2) (.v 4))) (f := (.m (.n (-1)) (.a (.s (.n 0) (.v 2)) (.s (.n 0) (.v 4))))) rfl rfl (by decide +kernel)
  rw [e]
  exact (F.zm' _ k)
theorem op_c {y1 y2 : α} (k : F.Z (F.add y1 y2)) : F.Z (F.add y2 y1) := by
  have e : (F.add y2 y1) = (F.mul (F.int 1) (F.add y1 y2)) := F.eq_of (fun k_ => match k_ with | 0 => y1 | 1 => y1 | 2 => y1 | 3 => y1 | 4 => y2 | 5 => y1 | 6 => y1 | _ => y1) (e := (.a (.v 4) (.v 2))) (f := (.m (.n 1) (.a (.v 2) (.v 4)))) rfl rfl (by decide +kernel)
  rw [e]
  exact (F.zm' _ k)
theorem op_x {x1 x2 : α} (k : F.Z (F.sub x1 x2)) : F.Z (F.sub x2 x1) := by
  have e : (F.sub x2 x1) = (F.mul (F.int (-1)) (F.sub x1 x2)) := F.eq_of (fun k_ => match k_ with | 0 => x1 | 1 => x1 | 2 => x1 | 3 => x2 | 4 => x1 | 5 => x1 | 6 => x1 | _ => x1) (e := (.s (.v 3) (.v 1))) (f := (.m (.n (-1)) (.s (.v 1) (.v 3)))) rfl rfl (by decide +kernel)
  rw [e]
  exact (F.zm' _ k)
theorem bk_o {y1 y2 : α} (k : F.Z (F.sub y1 y2)) : F.Z (F.add (F.sub (F.int 0) y1) y2) := by
  have e : (F.add (F.sub (F.int 0) y1) y2) = (F.mul (F.int (-1)) (F.sub y1 y2)) := F.eq_of (fun k_ => match k_ with | 0 => y1 | 1 => y1 | 2 => y1 | 3 => y1 | 4 => y2 | 5 => y1 | 6 => y1 | _ => y1) (e := (.a (.s (.n 0) (.v 2)) (.v 4))) (f := (.m (.n (-1)) (.s (.v 2) (.v 4)))) rfl rfl (by decide +kernel)
  rw [e]
  exact (F.zm' _ k)
theorem bk_r {y1 y2 : α} (k : F.Z (F.add y1 y2)) : F.Z (F.sub (F.sub (F.int 0) y2) y1) := by
  have e : (F.sub (F.sub (F.int 0) y2) y1) = (F.mul (F.int (-1)) (F.add y1 y2)) := F.eq_of (fun k_ => match k_ with | 0 => y1 | 1 => y1 | 2 => y1 | 3 => y1 | 4 => y2 | 5 => y1 | 6 => y1 | _ => y1) (e := (.s (.s (.n 0) (.v 4)) (.v 2))) (f := (.m (.n (-1)) (.a (.v 2) (.v 4)))) rfl rfl (by decide +kernel)
  rw [e]
  exact (F.zm' _ k)
theorem bk_2 {l x1 y1 x2 y2 x3 y3 : α} (h3 : F.Z (F.sub (F.sub y1 y2) (F.mul l (F.sub x1 x2)))) (ky : F.Z (F.sub y3 (F.sub (F.mul l (F.sub x1 x3)) y1))) (hx : F.Z (F.sub x2 x3)) (ho : F.Z (F.add (F.sub (F.int 0) y2) y3)) : F.Z (F.mul (F.int 2) y2) := by
  have e : (F.mul (F.int 2) y2) = (F.add (F.add (F.add (F.mul (F.int (-1)) (F.sub (F.sub y1 y2) (F.mul l (F.sub x1 x2)))) (F.mul (F.int 1) (F.sub y3 (F.sub (F.mul l (F.sub x1 x3)) y1)))) (F.mul l (F.sub x2 x3))) (F.mul (F.int (-1)) (F.add (F.sub (F.int 0) y2) y3))) := F.eq_of (fun k_ => match k_ with | 0 => l | 1 => x1 | 2 => y1 | 3 => x2 | 4 => y2 | 5 => x3 | 6 => y3 | _ => l) (e := (.m (.n 2) (.v 4))) (f := (.a (.a (.a (.m (.n (-1)) (.s (.s (.v 2) (.v 4)) (.m (.v 0) (.s (.v 1) (.v 3))))) (.m (.n 1) (.s (.v 6) (.s (.m (.v 0) (.s (.v 1) (.v 5))) (.v 2))))) (.m (.v 0) (.s (.v 3) (.v 5)))) (.m (.n (-1)) (.a (.s (.n 0) (.v 4)) (.v 6))))) rfl rfl (by decide +kernel)
  rw [e]
  exact (F.za (F.za (F.za (F.zm' _ h3) (F.zm' _ ky)) (F.zm' _ hx)) (F.zm' _ ho))
theorem bk_3 {l x1 y1 x2 y2 x3 : α} (h3 : F.Z (F.sub (F.sub y1 y2) (F.mul l (F.sub x1 x2)))) (hc : F.Z (F.sub (F.mul l (F.add y1 y2)) (F.add (F.add (F.mul x1 x1) (F.mul x1 x2)) (F.mul x2 x2)))) (kx : F.Z (F.sub x3 (F.sub (F.sub (F.mul l l) x1) x2))) (hx : F.Z (F.sub x2 x3)) (hy : F.Z y2) : F.Z (F.mul (F.int 3) (F.mul x2 x2)) := by
  have e : (F.mul (F.int 3) (F.mul x2 x2)) = (F.add (F.add (F.add (F.add (F.mul l (F.sub (F.sub y1 y2) (F.mul l (F.sub x1 x2)))) (F.mul (F.int (-1)) (F.sub (F.mul l (F.add y1 y2)) (F.add (F.add (F.mul x1 x1) (F.mul x1 x2)) (F.mul x2 x2))))) (F.mul (F.mul (F.int (-1)) (F.sub x1 x2)) (F.sub x3 (F.sub (F.sub (F.mul l l) x1) x2)))) (F.mul (F.mul (F.int (-1)) (F.sub x1 x2)) (F.sub x2 x3))) (F.mul (F.mul (F.int 2) l) y2)) := F.eq_of (fun k_ => match k_ with | 0 => l | 1 => x1 | 2 => y1 | 3 => x2 | 4 => y2 | 5 => x3 | 6 => l | _ => l) (e := (.m (.n 3) (.m (.v 3) (.v 3)))) (f := (.a (.a (.a (.a (.m (.v 0) (.s (.s (.v 2) (.v 4)) (.m (.v 0) (.s (.v 1) (.v 3))))) (.m (.n (-1)) (.s (.m (.v 0) (.a (.v 2) (.v 4))) (.a (.a (.m (.v 1) (.v 1)) (.m (.v 1) (.v 3))) (.m (.v 3) (.v 3)))))) (.m (.m (.n (-1)) (.s (.v 1) (.v 3))) (.s (.v 5) (.s (.s (.m (.v 0) (.v 0)) (.v 1)) (.v 3))))) (.m (.m (.n (-1)) (.s (.v 1) (.v 3))) (.s (.v 3) (.v 5)))) (.m (.m (.n 2) (.v 0)) (.v 4)))) rfl rfl (by decide +kernel)
  rw [e]
  exact (F.za (F.za (F.za (F.za (F.zm' _ h3) (F.zm' _ hc)) (F.zm' _ kx)) (F.zm' _ hx)) (F.zm' _ hy))
theorem bk_b {x2 y2 b : α} (h2 : F.Z (F.sub (F.mul y2 y2) (F.add (F.mul (F.mul x2 x2) x2) b))) (hy : F.Z y2) (hz : F.Z x2) : F.Z b := by
  have e : b = (F.add (F.add (F.mul (F.int (-1)) (F.sub (F.mul y2 y2) (F.add (F.mul (F.mul x2 x2) x2) b))) (F.mul y2 y2)) (F.mul (F.mul (F.int (-1)) (F.mul x2 x2)) x2)) := F.eq_of (fun k_ => match k_ with | 0 => x2 | 1 => x2 | 2 => x2 | 3 => x2 | 4 => y2 | 5 => x2 | 6 => x2 | _ => b) (e := (.v 7)) (f := (.a (.a (.m (.n (-1)) (.s (.m (.v 4) (.v 4)) (.a (.m (.m (.v 3) (.v 3)) (.v 3)) (.v 7)))) (.m (.v 4) (.v 4))) (.m (.m (.n (-1)) (.m (.v 3) (.v 3))) (.v 3)))) rfl rfl (by decide +kernel)
  rw [e]
  exact (F.za (F.za (F.zm' _ h2) (F.zm' _ hy)) (F.zm' _ hz))
theorem sum_comm {A B C : Pt α} (h : Sum F A B C) : Sum F B A C := by
  cases h with
  | zl h => exact .zr h
  | zr h => exact .zl h
  | op h => exact .op ⟨op_x F h.1, op_c F h.2⟩
  | sl ho hs h3 k3 => exact .sl (fun h => ho ⟨op_x F h.1, op_c F h.2⟩) ⟨cm_3 F hs.c3, cm_c F hs.cc⟩ (cm_x F h3) (cm_y F k3 hs.c3)
theorem neg_eq {A B : Pt α} (h : EqP F A B) : EqP F (negP F A) (negP F B) := by
  rcases A with _ | ⟨x, y⟩ <;> rcases B with _ | ⟨x', y'⟩
  all_goals first | trivial | exact h.elim | exact ⟨h.1, F.sub_eq (F.refl _) h.2⟩
theorem sum_neg {A B C : Pt α} (h : Sum F A B C) : Sum F (negP F A) (negP F B) (negP F C) := by
  cases h with
  | zl h => exact .zl (neg_eq F h)
  | zr h => exact .zr (neg_eq F h)
  | op h => exact .op ⟨h.1, ng_o F h.2⟩
  | sl ho hs h3 k3 => exact .sl (fun h => ho ⟨h.1, ng_i F h.2⟩) ⟨ng_3 F hs.c3, ng_c F hs.cc⟩ (ng_x F h3) (ng_y F k3)
theorem nz_int {n : Int} (h : ¬ n % Go.Proofs.YtgdimcnokagddaaDoor.Fp.PP = 0) : ¬ F.Z (F.int n) := fun k => h (F.ze.mp k)
/-- (-B) + (A + B) = A. -/
theorem sum_back {b : α} (hb : ¬ F.Z b) {A B C : Pt α} (a : OnP F b A) (e : OnP F b B) (h : Sum F A B C) : Sum F (negP F B) C A := by
  cases h with
  | zl h =>
    rcases B with _ | ⟨x2, y2⟩ <;> rcases C with _ | ⟨x3, y3⟩
    · exact .zl trivial
    · exact h.elim
    · exact h.elim
    · exact .op ⟨h.1, bk_o F h.2⟩
  | zr h => exact .zl (eqP_symm F h)
  | op h => exact .zr ⟨op_x F h.1, bk_r F h.2⟩
  | @sl x1 y1 x2 y2 l x3 y3 ho hs h3 k3 =>
    by_cases hp : Opp F x2 (F.sub (F.int 0) y2) x3 y3
    · exfalso
      have hy := (F.zd (bk_2 F hs.c3 k3 hp.1 hp.2)).resolve_left (nz_int F (by decide +kernel))
      have hz := (F.zd (bk_3 F hs.c3 hs.cc h3 hp.1 hy)).resolve_left (nz_int F (by decide +kernel))
      exact hb (bk_b F e hy ((F.zd hz).elim id id))
    · have e3 : F.eq (Xs F l x1 x2) x3 := F.symm h3
      have f3 : F.eq (Ys F l x1 y1 (Xs F l x1 x2)) y3 := F.trans (Ys_eq F (F.refl _) (F.refl _) (F.refl _) e3) (F.symm k3)
      refine .sl hp (slope_eq F (F.refl _) (F.refl _) (F.refl _) e3 f3 ⟨back_3 F a hs.c3 hs.cc, back_c F a hs.c3 hs.cc⟩) ?_ ?_
      · exact F.trans (F.symm (back_x F a hs.c3 hs.cc)) (Xs_eq F (F.refl _) (F.refl _) e3)
      · exact F.symm (back_y F a hs.c3 hs.cc)
end
end Go.Proofs.YtgdimcnokagddaaDoor.Ec

/-
  Own text. Sums of points hang on no brackets: (A + B) + C = A + (B + C). In any field. Speaks of no program.
-/
namespace Go.Proofs.YtgdimcnokagddaaDoor.Ec
set_option linter.unusedVariables false
set_option maxRecDepth 100000
open Go Go.Proofs.YtgdimcnokagddaaDoor.Ring
section
variable {α : Type} (F : Fd α)
theorem as_1 {l x1 y1 x2 y2 : α} (c3 : F.Z (F.sub (F.sub y1 y2) (F.mul l (F.sub x1 x2)))) : F.Z (F.sub y1 (F.add y2 (F.mul l (F.sub x1 x2)))) := by
  have e : (F.sub y1 (F.add y2 (F.mul l (F.sub x1 x2)))) = (F.mul (F.int 1) (F.sub (F.sub y1 y2) (F.mul l (F.sub x1 x2)))) := F.eq_of (fun k_ => match k_ with | 0 => l | 1 => l | 2 => x1 | 3 => y1 | 4 => x2 | 5 => y2 | 6 => l | 7 => l | 8 => l | 9 => l | 10 => l | _ => l) (e := (.s (.v 3) (.a (.v 5) (.m (.v 0) (.s (.v 2) (.v 4)))))) (f := (.m (.n 1) (.s (.s (.v 3) (.v 5)) (.m (.v 0) (.s (.v 2) (.v 4)))))) rfl rfl (by decide +kernel)
  rw [e]
  exact (F.zm' _ c3)
theorem as_3 {m x2 y2 x3 y3 : α} (k3 : F.Z (F.sub (F.sub y2 y3) (F.mul m (F.sub x2 x3)))) : F.Z (F.sub y3 (F.add y2 (F.mul m (F.sub x3 x2)))) := by
  have e : (F.sub y3 (F.add y2 (F.mul m (F.sub x3 x2)))) = (F.mul (F.int (-1)) (F.sub (F.sub y2 y3) (F.mul m (F.sub x2 x3)))) := F.eq_of (fun k_ => match k_ with | 0 => m | 1 => m | 2 => m | 3 => m | 4 => x2 | 5 => y2 | 6 => x3 | 7 => y3 | 8 => m | 9 => m | 10 => m | _ => m) (e := (.s (.v 7) (.a (.v 5) (.m (.v 1) (.s (.v 6) (.v 4)))))) (f := (.m (.n (-1)) (.s (.s (.v 5) (.v 7)) (.m (.v 1) (.s (.v 4) (.v 6)))))) rfl rfl (by decide +kernel)
  rw [e]
  exact (F.zm' _ k3)
theorem as_4 {l x1 y1 x2 y2 x4 y4 : α} (c3 : F.Z (F.sub (F.sub y1 y2) (F.mul l (F.sub x1 x2)))) (hx : F.Z (F.sub x4 (F.sub (F.sub (F.mul l l) x1) x2))) (hy : F.Z (F.sub y4 (F.sub (F.mul l (F.sub x1 x4)) y1))) : F.Z (F.sub y4 (F.mul (F.int (-1)) (F.add y2 (F.mul l (F.sub (F.sub (F.sub (F.mul l l) x1) x2) x2))))) := by
  have e : (F.sub y4 (F.mul (F.int (-1)) (F.add y2 (F.mul l (F.sub (F.sub (F.sub (F.mul l l) x1) x2) x2))))) = (F.add (F.add (F.mul (F.int (-1)) (F.sub (F.sub y1 y2) (F.mul l (F.sub x1 x2)))) (F.mul (F.mul (F.int (-1)) l) (F.sub x4 (F.sub (F.sub (F.mul l l) x1) x2)))) (F.mul (F.int 1) (F.sub y4 (F.sub (F.mul l (F.sub x1 x4)) y1)))) := F.eq_of (fun k_ => match k_ with | 0 => l | 1 => l | 2 => x1 | 3 => y1 | 4 => x2 | 5 => y2 | 6 => l | 7 => l | 8 => x4 | 9 => y4 | 10 => l | _ => l) (e := (.s (.v 9) (.m (.n (-1)) (.a (.v 5) (.m (.v 0) (.s (.s (.s (.m (.v 0) (.v 0)) (.v 2)) (.v 4)) (.v 4))))))) (f := (.a (.a (.m (.n (-1)) (.s (.s (.v 3) (.v 5)) (.m (.v 0) (.s (.v 2) (.v 4))))) (.m (.m (.n (-1)) (.v 0)) (.s (.v 8) (.s (.s (.m (.v 0) (.v 0)) (.v 2)) (.v 4))))) (.m (.n 1) (.s (.v 9) (.s (.m (.v 0) (.s (.v 2) (.v 8))) (.v 3)))))) rfl rfl (by decide +kernel)
  rw [e]
  exact (F.za (F.za (F.zm' _ c3) (F.zm' _ hx)) (F.zm' _ hy))
theorem as_5 {m x2 y2 x3 x5 y5 : α} (hx : F.Z (F.sub x5 (F.sub (F.sub (F.mul m m) x2) x3))) (hy : F.Z (F.sub y5 (F.sub (F.mul m (F.sub x2 x5)) y2))) : F.Z (F.sub y5 (F.mul (F.int (-1)) (F.add y2 (F.mul m (F.sub (F.sub (F.sub (F.mul m m) x2) x3) x2))))) := by
  have e : (F.sub y5 (F.mul (F.int (-1)) (F.add y2 (F.mul m (F.sub (F.sub (F.sub (F.mul m m) x2) x3) x2))))) = (F.add (F.mul (F.mul (F.int (-1)) m) (F.sub x5 (F.sub (F.sub (F.mul m m) x2) x3))) (F.mul (F.int 1) (F.sub y5 (F.sub (F.mul m (F.sub x2 x5)) y2)))) := F.eq_of (fun k_ => match k_ with | 0 => m | 1 => m | 2 => m | 3 => m | 4 => x2 | 5 => y2 | 6 => x3 | 7 => m | 8 => m | 9 => m | 10 => x5 | _ => y5) (e := (.s (.v 11) (.m (.n (-1)) (.a (.v 5) (.m (.v 1) (.s (.s (.s (.m (.v 1) (.v 1)) (.v 4)) (.v 6)) (.v 4))))))) (f := (.a (.m (.m (.n (-1)) (.v 1)) (.s (.v 10) (.s (.s (.m (.v 1) (.v 1)) (.v 4)) (.v 6)))) (.m (.n 1) (.s (.v 11) (.s (.m (.v 1) (.s (.v 4) (.v 10))) (.v 5)))))) rfl rfl (by decide +kernel)
  rw [e]
  exact (F.za (F.zm' _ hx) (F.zm' _ hy))
theorem as_c1 {l x1 y1 x2 y2 : α} (c3 : F.Z (F.sub (F.sub y1 y2) (F.mul l (F.sub x1 x2)))) (cc : F.Z (F.sub (F.mul l (F.add y1 y2)) (F.add (F.add (F.mul x1 x1) (F.mul x1 x2)) (F.mul x2 x2)))) : F.Z (F.sub (F.add (F.mul (F.mul (F.int 2) l) y2) (F.mul (F.mul l l) (F.sub x1 x2))) (F.add (F.add (F.mul x1 x1) (F.mul x1 x2)) (F.mul x2 x2))) := by
  have e : (F.sub (F.add (F.mul (F.mul (F.int 2) l) y2) (F.mul (F.mul l l) (F.sub x1 x2))) (F.add (F.add (F.mul x1 x1) (F.mul x1 x2)) (F.mul x2 x2))) = (F.add (F.mul (F.mul (F.int (-1)) l) (F.sub (F.sub y1 y2) (F.mul l (F.sub x1 x2)))) (F.mul (F.int 1) (F.sub (F.mul l (F.add y1 y2)) (F.add (F.add (F.mul x1 x1) (F.mul x1 x2)) (F.mul x2 x2))))) := F.eq_of (fun k_ => match k_ with | 0 => l | 1 => l | 2 => x1 | 3 => y1 | 4 => x2 | 5 => y2 | 6 => l | 7 => l | 8 => l | 9 => l | 10 => l | _ => l) (e := (.s (.a (.m (.m (.n 2) (.v 0)) (.v 5)) (.m (.m (.v 0) (.v 0)) (.s (.v 2) (.v 4)))) (.a (.a (.m (.v 2) (.v 2)) (.m (.v 2) (.v 4))) (.m (.v 4) (.v 4))))) (f := (.a (.m (.m (.n (-1)) (.v 0)) (.s (.s (.v 3) (.v 5)) (.m (.v 0) (.s (.v 2) (.v 4))))) (.m (.n 1) (.s (.m (.v 0) (.a (.v 3) (.v 5))) (.a (.a (.m (.v 2) (.v 2)) (.m (.v 2) (.v 4))) (.m (.v 4) (.v 4))))))) rfl rfl (by decide +kernel)
  rw [e]
  exact (F.za (F.zm' _ c3) (F.zm' _ cc))
theorem as_c2 {m x2 y2 x3 y3 : α} (k3 : F.Z (F.sub (F.sub y2 y3) (F.mul m (F.sub x2 x3)))) (kc : F.Z (F.sub (F.mul m (F.add y2 y3)) (F.add (F.add (F.mul x2 x2) (F.mul x2 x3)) (F.mul x3 x3)))) : F.Z (F.sub (F.add (F.mul (F.mul (F.int 2) m) y2) (F.mul (F.mul m m) (F.sub x3 x2))) (F.add (F.add (F.mul x3 x3) (F.mul x3 x2)) (F.mul x2 x2))) := by
  have e : (F.sub (F.add (F.mul (F.mul (F.int 2) m) y2) (F.mul (F.mul m m) (F.sub x3 x2))) (F.add (F.add (F.mul x3 x3) (F.mul x3 x2)) (F.mul x2 x2))) = (F.add (F.mul m (F.sub (F.sub y2 y3) (F.mul m (F.sub x2 x3)))) (F.mul (F.int 1) (F.sub (F.mul m (F.add y2 y3)) (F.add (F.add (F.mul x2 x2) (F.mul x2 x3)) (F.mul x3 x3))))) := F.eq_of (fun k_ => match k_ with | 0 => m | 1 => m | 2 => m | 3 => m | 4 => x2 | 5 => y2 | 6 => x3 | 7 => y3 | 8 => m | 9 => m | 10 => m | _ => m) (e := (.s (.a (.m (.m (.n 2) (.v 1)) (.v 5)) (.m (.m (.v 1) (.v 1)) (.s (.v 6) (.v 4)))) (.a (.a (.m (.v 6) (.v 6)) (.m (.v 6) (.v 4))) (.m (.v 4) (.v 4))))) (f := (.a (.m (.v 1) (.s (.s (.v 5) (.v 7)) (.m (.v 1) (.s (.v 4) (.v 6))))) (.m (.n 1) (.s (.m (.v 1) (.a (.v 5) (.v 7))) (.a (.a (.m (.v 4) (.v 4)) (.m (.v 4) (.v 6))) (.m (.v 6) (.v 6))))))) rfl rfl (by decide +kernel)
  rw [e]
  exact (F.za (F.zm' _ k3) (F.zm' _ kc))
theorem as_n {l x1 y1 x2 y2 : α} (c3 : F.Z (F.sub (F.sub y1 y2) (F.mul l (F.sub x1 x2)))) : F.Z (F.sub (F.mul l (F.sub x2 x1)) (F.sub y2 y1)) := by
  have e : (F.sub (F.mul l (F.sub x2 x1)) (F.sub y2 y1)) = (F.mul (F.int 1) (F.sub (F.sub y1 y2) (F.mul l (F.sub x1 x2)))) := F.eq_of (fun k_ => match k_ with | 0 => l | 1 => l | 2 => x1 | 3 => y1 | 4 => x2 | 5 => y2 | 6 => l | 7 => l | 8 => l | 9 => l | 10 => l | _ => l) (e := (.s (.m (.v 0) (.s (.v 4) (.v 2))) (.s (.v 5) (.v 3)))) (f := (.m (.n 1) (.s (.s (.v 3) (.v 5)) (.m (.v 0) (.s (.v 2) (.v 4)))))) rfl rfl (by decide +kernel)
  rw [e]
  exact (F.zm' _ c3)
theorem as_t {l x1 y1 x2 y2 : α} (cc : F.Z (F.sub (F.mul l (F.add y1 y2)) (F.add (F.add (F.mul x1 x1) (F.mul x1 x2)) (F.mul x2 x2)))) : F.Z (F.sub (F.mul l (F.add y2 y1)) (F.add (F.add (F.mul x2 x2) (F.mul x2 x1)) (F.mul x1 x1))) := by
  have e : (F.sub (F.mul l (F.add y2 y1)) (F.add (F.add (F.mul x2 x2) (F.mul x2 x1)) (F.mul x1 x1))) = (F.mul (F.int 1) (F.sub (F.mul l (F.add y1 y2)) (F.add (F.add (F.mul x1 x1) (F.mul x1 x2)) (F.mul x2 x2)))) := F.eq_of (fun k_ => match k_ with | 0 => l | 1 => l | 2 => x1 | 3 => y1 | 4 => x2 | 5 => y2 | 6 => l | 7 => l | 8 => l | 9 => l | 10 => l | _ => l) (e := (.s (.m (.v 0) (.a (.v 5) (.v 3))) (.a (.a (.m (.v 4) (.v 4)) (.m (.v 4) (.v 2))) (.m (.v 2) (.v 2))))) (f := (.m (.n 1) (.s (.m (.v 0) (.a (.v 3) (.v 5))) (.a (.a (.m (.v 2) (.v 2)) (.m (.v 2) (.v 4))) (.m (.v 4) (.v 4)))))) rfl rfl (by decide +kernel)
  rw [e]
  exact (F.zm' _ cc)
theorem nn {y1 : α}  : F.Z (F.sub (F.sub (F.int 0) (F.sub (F.int 0) y1)) y1) := by
  have e : (F.sub (F.sub (F.int 0) (F.sub (F.int 0) y1)) y1) = (F.int 0) := F.eq_of (fun k_ => match k_ with | 0 => y1 | 1 => y1 | 2 => y1 | 3 => y1 | 4 => y1 | 5 => y1 | 6 => y1 | 7 => y1 | 8 => y1 | 9 => y1 | 10 => y1 | _ => y1) (e := (.s (.s (.n 0) (.s (.n 0) (.v 3))) (.v 3))) (f := (.n 0)) rfl rfl (by decide +kernel)
  rw [e]
  exact F.z0
theorem no_opp {x1 y1 x2 y2 : α} (ho : ¬ Opp F x1 y1 x2 y2) (h : F.Z (F.sub x2 x1)) : ¬ F.Z (F.add y2 y1) := fun k => ho ⟨op_x F h, op_c F k⟩
/-- Where no sum on the way is infinity. -/
theorem br_all {x1 y1 x2 y2 x3 y3 l m x4 y4 x5 y5 n k u v u' v' : α} (hl : Slope F l x1 y1 x2 y2) (hm : Slope F m x2 y2 x3 y3)
    (hx4 : F.eq x4 (Xs F l x1 x2)) (hy4 : F.eq y4 (Ys F l x1 y1 x4)) (hx5 : F.eq x5 (Xs F m x2 x3)) (hy5 : F.eq y5 (Ys F m x2 y2 x5))
    (on : ¬ Opp F x4 y4 x3 y3) (hn : Slope F n x4 y4 x3 y3) (ok : ¬ Opp F x1 y1 x5 y5) (hk : Slope F k x1 y1 x5 y5)
    (hu : F.eq u (Xs F n x4 x3)) (hv : F.eq v (Ys F n x4 y4 u)) (hu' : F.eq u' (Xs F k x1 x5)) (hv' : F.eq v' (Ys F k x1 y1 u')) : F.eq u u' ∧ F.eq v v' := by
  let en : Nat → α := fun i => match i with | 0 => x1 | 1 => x3 | 2 => x2 | 3 => y2 | 4 => l | _ => m
  have q1 : F.eq y1 (Y1.val F.toRg en) := as_1 F hl.c3
  have q3 : F.eq y3 (Y3.val F.toRg en) := as_3 F hm.c3
  have qx4 : F.eq x4 (X4.val F.toRg en) := hx4
  have qy4 : F.eq y4 (Y4.val F.toRg en) := as_4 F hl.c3 hx4 hy4
  have qx5 : F.eq x5 (X5.val F.toRg en) := hx5
  have qy5 : F.eq y5 (Y5.val F.toRg en) := as_5 F hx5 hy5
  have e1 : F.Z (C1.val F.toRg en) := as_c1 F hl.c3 hl.cc
  have e2 : F.Z (C2.val F.toRg en) := as_c2 F hm.c3 hm.cc
  have on' : ¬ Opp F (X4.val F.toRg en) (Y4.val F.toRg en) x3 (Y3.val F.toRg en) := fun h => on (opp_eq F (F.symm qx4) (F.symm qy4) (F.refl _) (F.symm q3) h)
  have ok' : ¬ Opp F x1 (Y1.val F.toRg en) (X5.val F.toRg en) (Y5.val F.toRg en) := fun h => ok (opp_eq F (F.refl _) (F.symm q1) (F.symm qx5) (F.symm qy5) h)
  have sn := slope_eq F (F.refl _) qx4 qy4 (F.refl _) q3 hn
  have sk := slope_eq F (F.refl _) (F.refl _) q1 qx5 qy5 hk
  have main : F.eq (F.sub (F.sub (F.mul n n) (X4.val F.toRg en)) (en 1)) (F.sub (F.sub (F.mul k k) (en 0)) (X5.val F.toRg en)) ∧
      F.eq (F.sub (F.mul n (F.sub (en 1) (F.sub (F.sub (F.mul n n) (X4.val F.toRg en)) (en 1)))) (Y3.val F.toRg en)) (F.sub (F.mul k (F.sub (en 0) (F.sub (F.sub (F.mul n n) (X4.val F.toRg en)) (en 1)))) (Y1.val F.toRg en)) := by
    by_cases hD : F.Z (Dc.val F.toRg en) <;> by_cases hQ : F.Z (Fc.val F.toRg en)
    · exact br_tt F en e1 e2 (no_opp F on' hD) (no_opp F ok' hQ) (as_t F sn.cc) (as_t F sk.cc)
    · exact br_tc F en e1 e2 (no_opp F on' hD) hQ (as_t F sn.cc) (as_n F sk.c3)
    · exact br_ct F en e1 e2 hD (no_opp F ok' hQ) (as_n F sn.c3) (as_t F sk.cc)
    · exact br_cc F en e1 e2 hD hQ (as_n F sn.c3) (as_n F sk.c3)
  have hM : F.eq u (F.sub (F.sub (F.mul n n) (X4.val F.toRg en)) (en 1)) := F.trans hu (Xs_eq F (F.refl _) qx4 (F.refl _))
  have hx : F.eq u u' := F.trans hM (F.trans main.1 (F.symm (F.trans hu' (Xs_eq F (F.refl _) (F.refl _) qx5))))
  refine ⟨hx, ?_⟩
  have a1 : F.eq v (Ys F n x3 y3 u) := cm_y F hv hn.c3
  have a2 := F.trans a1 (Ys_eq F (F.refl n) (F.refl x3) q3 hM)
  have a3 : F.eq v (Ys F k x1 (Y1.val F.toRg en) (F.sub (F.sub (F.mul n n) (X4.val F.toRg en)) (en 1))) := F.trans a2 main.2
  exact F.trans a3 (F.trans (Ys_eq F (F.refl k) (F.refl x1) (F.symm q1) (F.trans (F.symm hM) hx)) (F.symm hv'))
theorem neg_neg (A : Pt α) : EqP F (negP F (negP F A)) A := by
  rcases A with _ | ⟨x, y⟩
  · trivial
  · exact ⟨F.refl _, nn F⟩
theorem sum_nl {B D : Pt α} (h : Sum F none B D) : EqP F B D := by
  cases h with
  | zl h => exact h
  | zr h => exact h
theorem sum_nr {B D : Pt α} (h : Sum F B none D) : EqP F B D := by
  cases h with
  | zl h => exact h
  | zr h => exact h
theorem sum_op {A B : Pt α} (h : Sum F A B none) : EqP F (negP F A) B := by
  cases h with
  | zl h =>
    rcases B with _ | ⟨x, y⟩
    · trivial
    · exact h.elim
  | zr h =>
    rcases A with _ | ⟨x, y⟩
    · trivial
    · exact h.elim
  | op h => exact ⟨h.1, bk_r F (op_c F h.2)⟩
theorem sum_self (A : Pt α) : Sum F A (negP F A) none := by
  rcases A with _ | ⟨x, y⟩
  · exact .zl trivial
  · exact .op ⟨F.refl _, by have h := bk_o F (F.refl y); exact op_c F h⟩
theorem on_neg {x y b : α} (h : F.Z (F.sub (F.mul y y) (F.add (F.mul (F.mul x x) x) b))) : F.Z (F.sub (F.mul (F.sub (F.int 0) y) (F.sub (F.int 0) y)) (F.add (F.mul (F.mul x x) x) b)) := by
  have e : (F.sub (F.mul (F.sub (F.int 0) y) (F.sub (F.int 0) y)) (F.add (F.mul (F.mul x x) x) b)) = (F.mul (F.int 1) (F.sub (F.mul y y) (F.add (F.mul (F.mul x x) x) b))) := F.eq_of (fun k_ => match k_ with | 0 => x | 1 => y | _ => b) (e := (.s (.m (.s (.n 0) (.v 1)) (.s (.n 0) (.v 1))) (.a (.m (.m (.v 0) (.v 0)) (.v 0)) (.v 2)))) (f := (.m (.n 1) (.s (.m (.v 1) (.v 1)) (.a (.m (.m (.v 0) (.v 0)) (.v 0)) (.v 2))))) rfl rfl (by decide +kernel)
  rw [e]
  exact (F.zm' _ h)
theorem onP_neg {b : α} {A : Pt α} (h : OnP F b A) : OnP F b (negP F A) := by
  rcases A with _ | ⟨x, y⟩
  · trivial
  · exact on_neg F h
/-- (A + B) + C = A + (B + C). -/
theorem sum_assoc {b : α} (hb : ¬ F.Z b) {A B C D E L R : Pt α} (a : OnP F b A) (e : OnP F b B) (c : OnP F b C)
    (hD : Sum F A B D) (hE : Sum F B C E) (hL : Sum F D C L) (hR : Sum F A E R) : EqP F L R := by
  have r := fun X : Pt α => eqP_refl F X
  rcases A with _ | ⟨x1, y1⟩
  · exact eqP_trans F (sum_un F (sum_eq F (eqP_symm F (sum_nl F hD)) (r C) (r L) hL) hE) (sum_nl F hR)
  rcases B with _ | ⟨x2, y2⟩
  · exact sum_un F (sum_eq F (eqP_symm F (sum_nr F hD)) (sum_nl F hE) (r L) hL) hR
  rcases C with _ | ⟨x3, y3⟩
  · exact eqP_trans F (eqP_symm F (sum_nr F hL)) (sum_un F hD (sum_eq F (r _) (eqP_symm F (sum_nr F hE)) (r R) hR))
  rcases D with _ | ⟨x4, y4⟩
  · have h1 := sum_eq F (eqP_symm F (sum_op F hD)) (r _) (r _) hE
    have h2 := sum_back F hb c (onP_neg F a) (sum_comm F h1)
    exact eqP_trans F (eqP_symm F (sum_nl F hL)) (sum_un F (sum_eq F (neg_neg F _) (r _) (r _) h2) hR)
  rcases E with _ | ⟨x5, y5⟩
  · have h1 := sum_eq F (r _) (eqP_symm F (sum_op F hE)) (r L) hL
    exact eqP_trans F (sum_un F h1 (sum_comm F (sum_back F hb a e hD))) (sum_nr F hR)
  rcases L with _ | ⟨u, v⟩
  · have h1 := sum_eq F (neg_neg F _) (r _) (r _) (sum_neg F (sum_back F hb a e hD))
    have h2 := sum_un F (sum_eq F (r _) (sum_op F hL) (r _) h1) hE
    exact sum_un F (sum_self F _) (sum_eq F (r _) (eqP_symm F h2) (r R) hR)
  rcases R with _ | ⟨u', v'⟩
  · have h0 := sum_neg F (sum_back F hb c e (sum_comm F hE))
    have h1 := sum_comm F (sum_eq F (neg_neg F _) (r _) (r _) h0)
    have h2 := eqP_trans F (neg_eq F (eqP_symm F (sum_op F hR))) (neg_neg F _)
    have h3 := sum_un F hD (sum_eq F h2 (r _) (r _) h1)
    exact sum_un F hL (sum_eq F (eqP_symm F h3) (r _) (r _) (sum_comm F (sum_self F _)))
  cases hD with
  | sl oD sD xD yD =>
  cases hE with
  | sl oE sE xE yE =>
  cases hL with
  | sl oL sL xL yL =>
  cases hR with
  | sl oR sR xR yR =>
  exact br_all F sD sE xD yD xE yE oL sL oR sR xL yL xR yR
end
end Go.Proofs.YtgdimcnokagddaaDoor.Ec

/-
  Own text. Multiples of points: n A + m A = (n + m) A, m (n A) = (m n) A, n (A + B) = n A + n B, n (-A) = -(n A). In any field. Speaks of no program.
-/
namespace Go.Proofs.YtgdimcnokagddaaDoor.Ec
set_option linter.unusedVariables false
open Go Go.Proofs.YtgdimcnokagddaaDoor.Ring
section
variable {α : Type} (F : Fd α)
/-- C is n times A. -/
def Mult : Nat → Pt α → Pt α → Prop
  | 0, _, C => EqP F none C
  | n + 1, A, C => ∃ D, Mult n A D ∧ Sum F D A C
theorem mult_eq {n : Nat} {A A' C C' : Pt α} (a : EqP F A A') (c : EqP F C C') (h : Mult F n A C) : Mult F n A' C' := by
  induction n generalizing C C' with
  | zero => exact eqP_trans F h c
  | succ n ih =>
    obtain ⟨D, h1, h2⟩ := h
    exact ⟨D, ih (eqP_refl F D) h1, sum_eq F (eqP_refl F D) a c h2⟩
theorem mult_un {n : Nat} {A C C' : Pt α} (h : Mult F n A C) (k : Mult F n A C') : EqP F C C' := by
  induction n generalizing C C' with
  | zero => exact eqP_trans F (eqP_symm F h) k
  | succ n ih =>
    obtain ⟨D, h1, h2⟩ := h
    obtain ⟨E, k1, k2⟩ := k
    exact sum_un F (sum_eq F (ih h1 k1) (eqP_refl F A) (eqP_refl F C) h2) k2
theorem mult_on {b : α} {n : Nat} {A C : Pt α} (a : OnP F b A) (h : Mult F n A C) : OnP F b C := by
  induction n generalizing C with
  | zero => exact onP_eq F h trivial
  | succ n ih =>
    obtain ⟨D, h1, h2⟩ := h
    exact sum_on F (ih h1) a h2
/-- (A + B) + C = A + (B + C), handed on. -/
theorem assoc_l {b : α} (hb : ¬ F.Z b) {A B C D E R : Pt α} (a : OnP F b A) (e : OnP F b B) (c : OnP F b C)
    (hD : Sum F A B D) (hE : Sum F B C E) (hR : Sum F A E R) : Sum F D C R := by
  obtain ⟨L, hL, _⟩ := sum_ex F (sum_on F a e hD) c
  exact sum_eq F (eqP_refl F _) (eqP_refl F _) (sum_assoc F hb a e c hD hE hL hR) hL
theorem mult_add {b : α} (hb : ¬ F.Z b) {n m : Nat} {A D E C : Pt α} (a : OnP F b A) (hD : Mult F n A D) (hE : Mult F m A E) (h : Sum F D E C) : Mult F (n + m) A C := by
  induction m generalizing E C with
  | zero => exact mult_eq F (eqP_refl F A) (sum_nr F (sum_eq F (eqP_refl F D) (eqP_symm F hE) (eqP_refl F C) h)) hD
  | succ m ih =>
    obtain ⟨E', h1, h2⟩ := hE
    have d := mult_on F a hD
    have e := mult_on F a h1
    obtain ⟨G, h3, _⟩ := sum_ex F d e
    exact ⟨G, ih h1 h3, assoc_l F hb d e a h3 h2 h⟩
theorem mult_mult {b : α} (hb : ¬ F.Z b) {n m : Nat} {A D C : Pt α} (a : OnP F b A) (hD : Mult F n A D) (h : Mult F m D C) : Mult F (m * n) A C := by
  induction m generalizing C with
  | zero => rw [Nat.zero_mul]; exact h
  | succ m ih =>
    obtain ⟨E, h1, h2⟩ := h
    rw [Nat.succ_mul]
    exact mult_add F hb a (ih h1) hD h2
end
end Go.Proofs.YtgdimcnokagddaaDoor.Ec

/-
  Own text. The sum of two points as a function, on the curve or not; on the curve it is the sum. Multiples. In any field. Speaks of no program.
-/
namespace Go.Proofs.YtgdimcnokagddaaDoor.Ec
set_option linter.unusedVariables false
set_option linter.unusedSectionVars false
set_option maxRecDepth 100000
open Go Go.Proofs.YtgdimcnokagddaaDoor.Ring
section
variable {α : Type} (F : Fd α)
theorem ad_tc {i x1 y1 x2 y2 : α} (hi : F.Z (F.add (F.mul (F.mul (F.int 2) y1) i) (F.int (-1)))) (hy : F.Z (F.sub y1 y2)) (hx : F.Z (F.sub x1 x2)) : F.Z (F.sub (F.mul (F.mul (F.mul (F.int 3) (F.mul x1 x1)) i) (F.add y1 y2)) (F.add (F.add (F.mul x1 x1) (F.mul x1 x2)) (F.mul x2 x2))) := by
  have e : (F.sub (F.mul (F.mul (F.mul (F.int 3) (F.mul x1 x1)) i) (F.add y1 y2)) (F.add (F.add (F.mul x1 x1) (F.mul x1 x2)) (F.mul x2 x2))) = (F.add (F.add (F.mul (F.mul (F.int 3) (F.mul x1 x1)) (F.add (F.mul (F.mul (F.int 2) y1) i) (F.int (-1)))) (F.mul (F.mul (F.int (-1)) (F.mul (F.mul (F.int 3) (F.mul x1 x1)) i)) (F.sub y1 y2))) (F.mul (F.add (F.mul (F.int 2) x1) x2) (F.sub x1 x2))) := F.eq_of (fun k_ => match k_ with | 0 => i | 1 => x1 | 2 => y1 | 3 => x2 | 4 => y2 | _ => i) (e := (.s (.m (.m (.m (.n 3) (.m (.v 1) (.v 1))) (.v 0)) (.a (.v 2) (.v 4))) (.a (.a (.m (.v 1) (.v 1)) (.m (.v 1) (.v 3))) (.m (.v 3) (.v 3))))) (f := (.a (.a (.m (.m (.n 3) (.m (.v 1) (.v 1))) (.a (.m (.m (.n 2) (.v 2)) (.v 0)) (.n (-1)))) (.m (.m (.n (-1)) (.m (.m (.n 3) (.m (.v 1) (.v 1))) (.v 0))) (.s (.v 2) (.v 4)))) (.m (.a (.m (.n 2) (.v 1)) (.v 3)) (.s (.v 1) (.v 3))))) rfl rfl (by decide +kernel)
  rw [e]
  exact (F.za (F.za (F.zm' _ hi) (F.zm' _ hy)) (F.zm' _ hx))
theorem ad_c3 {i x1 y1 x2 y2 : α} (hi : F.Z (F.add (F.mul (F.sub x2 x1) i) (F.int (-1)))) : F.Z (F.sub (F.sub y1 y2) (F.mul (F.mul (F.sub y2 y1) i) (F.sub x1 x2))) := by
  have e : (F.sub (F.sub y1 y2) (F.mul (F.mul (F.sub y2 y1) i) (F.sub x1 x2))) = (F.mul (F.mul (F.int (-1)) (F.sub y1 y2)) (F.add (F.mul (F.sub x2 x1) i) (F.int (-1)))) := F.eq_of (fun k_ => match k_ with | 0 => i | 1 => x1 | 2 => y1 | 3 => x2 | 4 => y2 | _ => i) (e := (.s (.s (.v 2) (.v 4)) (.m (.m (.s (.v 4) (.v 2)) (.v 0)) (.s (.v 1) (.v 3))))) (f := (.m (.m (.n (-1)) (.s (.v 2) (.v 4))) (.a (.m (.s (.v 3) (.v 1)) (.v 0)) (.n (-1))))) rfl rfl (by decide +kernel)
  rw [e]
  exact (F.zm' _ hi)
theorem ad_2 {y1 y2 : α} (ho : F.Z (F.add y1 y2)) (hy : F.Z (F.sub y1 y2)) : F.Z (F.mul (F.int 2) y1) := by
  have e : (F.mul (F.int 2) y1) = (F.add (F.mul (F.int 1) (F.add y1 y2)) (F.mul (F.int 1) (F.sub y1 y2))) := F.eq_of (fun k_ => match k_ with | 0 => y1 | 1 => y1 | 2 => y1 | 3 => y1 | 4 => y2 | _ => y1) (e := (.m (.n 2) (.v 2))) (f := (.a (.m (.n 1) (.a (.v 2) (.v 4))) (.m (.n 1) (.s (.v 2) (.v 4))))) rfl rfl (by decide +kernel)
  rw [e]
  exact (F.za (F.zm' _ ho) (F.zm' _ hy))
theorem ad_o {y1 y2 : α} (k : F.Z y1) (hy : F.Z (F.sub y1 y2)) : F.Z (F.add y1 y2) := by
  have e : (F.add y1 y2) = (F.add (F.mul (F.int 2) y1) (F.mul (F.int (-1)) (F.sub y1 y2))) := F.eq_of (fun k_ => match k_ with | 0 => y1 | 1 => y1 | 2 => y1 | 3 => y1 | 4 => y2 | _ => y1) (e := (.a (.v 2) (.v 4))) (f := (.a (.m (.n 2) (.v 2)) (.m (.n (-1)) (.s (.v 2) (.v 4))))) rfl rfl (by decide +kernel)
  rw [e]
  exact (F.za (F.zm' _ k) (F.zm' _ hy))
theorem ad_m {x1 x2 : α} (k : F.Z (F.sub x1 x2)) : F.Z (F.sub x2 x1) := by
  have e : (F.sub x2 x1) = (F.mul (F.int (-1)) (F.sub x1 x2)) := F.eq_of (fun k_ => match k_ with | 0 => x1 | 1 => x1 | 2 => x1 | 3 => x2 | 4 => x1 | _ => x1) (e := (.s (.v 3) (.v 1))) (f := (.m (.n (-1)) (.s (.v 1) (.v 3)))) rfl rfl (by decide +kernel)
  rw [e]
  exact (F.zm' _ k)
theorem inv_eq {a b : α} (h : F.eq a b) (ha : ¬ F.Z a) : F.eq (F.inv a) (F.inv b) := by
  have hb : ¬ F.Z b := fun k => ha (F.Z_of (F.symm h) k)
  have h1 : F.eq (F.mul a (F.inv a)) (F.int 1) := by
    have e : F.add (F.mul a (F.inv a)) (F.mul (F.int (-1)) (F.int 1)) = F.add (F.mul a (F.inv a)) (F.int (-1)) := F.eq_of (fun k_ => match k_ with | 0 => a | _ => F.inv a) (e := .s (.m (.v 0) (.v 1)) (.n 1)) (f := .a (.m (.v 0) (.v 1)) (.n (-1))) rfl rfl (by decide)
    rw [Fd.eq, e]
    exact F.zi ha
  have h2 : F.eq (F.mul b (F.inv b)) (F.int 1) := by
    have e : F.add (F.mul b (F.inv b)) (F.mul (F.int (-1)) (F.int 1)) = F.add (F.mul b (F.inv b)) (F.int (-1)) := F.eq_of (fun k_ => match k_ with | 0 => b | _ => F.inv b) (e := .s (.m (.v 0) (.v 1)) (.n 1)) (f := .a (.m (.v 0) (.v 1)) (.n (-1))) rfl rfl (by decide)
    rw [Fd.eq, e]
    exact F.zi hb
  refine F.cancel ha ?_
  rw [F.mul_comm (F.inv a), F.mul_comm (F.inv b)]
  exact F.trans h1 (F.trans (F.symm h2) (F.mul_eq (F.symm h) (F.refl _)))
def slT (x y : α) : α := F.mul (F.mul (F.int 3) (F.mul x x)) (F.inv (F.mul (F.int 2) y))
def slC (x1 y1 x2 y2 : α) : α := F.mul (F.sub y2 y1) (F.inv (F.sub x2 x1))
def trd (l x1 y1 x2 : α) : Pt α := some (Xs F l x1 x2, Ys F l x1 y1 (Xs F l x1 x2))
section
variable [DecidablePred F.Z]
/-- The document's sum. -/
def addP : Pt α → Pt α → Pt α
  | none, B => B
  | some a, none => some a
  | some (x1, y1), some (x2, y2) => if F.Z (F.sub x1 x2) then (if F.Z (F.sub y1 y2) ∧ ¬ F.Z y1 then trd F (slT F x1 y1) x1 y1 x2 else none) else trd F (slC F x1 y1 x2 y2) x1 y1 x2
def mulP : Nat → Pt α → Pt α
  | 0, _ => none
  | n + 1, A => addP F (mulP n A) A
theorem add_sum {b : α} {A B : Pt α} (a : OnP F b A) (e : OnP F b B) : Sum F A B (addP F A B) := by
  rcases A with _ | ⟨x1, y1⟩
  · exact .zl (eqP_refl F B)
  rcases B with _ | ⟨x2, y2⟩
  · exact .zr (eqP_refl F _)
  show Sum F _ _ (if F.Z (F.sub x1 x2) then (if F.Z (F.sub y1 y2) ∧ ¬ F.Z y1 then trd F (slT F x1 y1) x1 y1 x2 else none) else trd F (slC F x1 y1 x2 y2) x1 y1 x2)
  by_cases hx : F.Z (F.sub x1 x2)
  · rw [if_pos hx]
    by_cases hy : F.Z (F.sub y1 y2) ∧ ¬ F.Z y1
    · rw [if_pos hy]
      have h2 : ¬ F.Z (F.mul (F.int 2) y1) := fun k => (F.zd k).elim (nz_int F (by decide +kernel)) hy.2
      exact .sl (fun ho => h2 (ad_2 F ho.2 hy.1)) ⟨slope_t3 F hy.1 hx, ad_tc F (F.zi h2) hy.1 hx⟩ (F.refl _) (F.refl _)
    · rw [if_neg hy]
      refine .op ⟨hx, ?_⟩
      rcases F.zd (slope_y F a e hx) with h | h
      · exact ad_o F (Decidable.byContradiction fun k => hy ⟨h, k⟩) h
      · exact h
  · rw [if_neg hx]
    have h3 := ad_c3 (y1 := y1) (y2 := y2) F (F.zi (fun k => hx (ad_m F k)))
    exact .sl (fun ho => hx ho.1) ⟨h3, (F.zd (chord_z F a e h3)).resolve_right hx⟩ (F.refl _) (F.refl _)
theorem add_on {b : α} {A B : Pt α} (a : OnP F b A) (e : OnP F b B) : OnP F b (addP F A B) := sum_on F a e (add_sum F a e)
theorem trd_eq {l x1 y1 x2 l' x1' y1' x2' : α} (hl : F.eq l l') (h1 : F.eq x1 x1') (k1 : F.eq y1 y1') (h2 : F.eq x2 x2') : EqP F (trd F l x1 y1 x2) (trd F l' x1' y1' x2') :=
  ⟨Xs_eq F hl h1 h2, Ys_eq F hl h1 k1 (Xs_eq F hl h1 h2)⟩
theorem add_eq' {A B A' B' : Pt α} (a : EqP F A A') (e : EqP F B B') : EqP F (addP F A B) (addP F A' B') := by
  rcases A with _ | ⟨x1, y1⟩ <;> rcases A' with _ | ⟨u1, v1⟩
  · exact e
  · exact a.elim
  · exact a.elim
  rcases B with _ | ⟨x2, y2⟩ <;> rcases B' with _ | ⟨u2, v2⟩
  · exact a
  · exact e.elim
  · exact e.elim
  have dx := F.sub_eq a.1 e.1
  have dy := F.sub_eq a.2 e.2
  show EqP F (if F.Z (F.sub x1 x2) then (if F.Z (F.sub y1 y2) ∧ ¬ F.Z y1 then trd F (slT F x1 y1) x1 y1 x2 else none) else trd F (slC F x1 y1 x2 y2) x1 y1 x2) (if F.Z (F.sub u1 u2) then (if F.Z (F.sub v1 v2) ∧ ¬ F.Z v1 then trd F (slT F u1 v1) u1 v1 u2 else none) else trd F (slC F u1 v1 u2 v2) u1 v1 u2)
  by_cases hx : F.Z (F.sub x1 x2)
  · rw [if_pos hx, if_pos (F.Z_of dx hx)]
    by_cases hy : F.Z (F.sub y1 y2) ∧ ¬ F.Z y1
    · rw [if_pos hy, if_pos ⟨F.Z_of dy hy.1, fun k => hy.2 (F.Z_of (F.symm a.2) k)⟩]
      have h2 : ¬ F.Z (F.mul (F.int 2) y1) := fun k => (F.zd k).elim (nz_int F (by decide +kernel)) hy.2
      exact trd_eq F (F.mul_eq (F.mul_eq (F.refl _) (F.mul_eq a.1 a.1)) (inv_eq F (F.mul_eq (F.refl _) a.2) h2)) a.1 a.2 e.1
    · rw [if_neg hy, if_neg (fun k => hy ⟨F.Z_of (F.symm dy) k.1, fun h => k.2 (F.Z_of a.2 h)⟩)]
      trivial
  · rw [if_neg hx, if_neg (fun k => hx (F.Z_of (F.symm dx) k))]
    exact trd_eq F (F.mul_eq (F.sub_eq e.2 a.2) (inv_eq F (F.sub_eq e.1 a.1) (fun k => hx (ad_m F k)))) a.1 a.2 e.1
theorem mulP_mult {b : α} {A : Pt α} (a : OnP F b A) : ∀ n, Mult F n A (mulP F n A) ∧ OnP F b (mulP F n A)
  | 0 => ⟨trivial, trivial⟩
  | n + 1 => by
    obtain ⟨h, k⟩ := mulP_mult a n
    exact ⟨⟨_, h, add_sum F k a⟩, add_on F k a⟩
theorem mulP_of {b : α} {A C : Pt α} (a : OnP F b A) {n : Nat} (h : Mult F n A C) : EqP F C (mulP F n A) := mult_un F h (mulP_mult F a n).1
end
end
end Go.Proofs.YtgdimcnokagddaaDoor.Ec

/-
  Own text. Points as fractions: a double, a sum with a point, as the document's answer reckons them. In any field. Speaks of no program.
-/
namespace Go.Proofs.YtgdimcnokagddaaDoor.Ec
set_option linter.unusedVariables false
set_option maxRecDepth 100000
open Go Go.Proofs.YtgdimcnokagddaaDoor.Ring
section
variable {α : Type} (F : Fd α)
def twX (X Y : α) : α := (F.sub (F.mul (F.mul (F.int 3) (F.mul X X)) (F.mul (F.int 3) (F.mul X X))) (F.add (F.mul (F.int 4) (F.mul X (F.mul Y Y))) (F.mul (F.int 4) (F.mul X (F.mul Y Y)))))
def twY (X Y : α) : α := (F.sub (F.mul (F.mul (F.int 3) (F.mul X X)) (F.sub (F.mul (F.int 4) (F.mul X (F.mul Y Y))) (F.sub (F.mul (F.mul (F.int 3) (F.mul X X)) (F.mul (F.int 3) (F.mul X X))) (F.add (F.mul (F.int 4) (F.mul X (F.mul Y Y))) (F.mul (F.int 4) (F.mul X (F.mul Y Y))))))) (F.mul (F.int 8) (F.mul (F.mul Y Y) (F.mul Y Y))))
def twZ (Y Z : α) : α := (F.mul (F.int 2) (F.mul Y Z))
def plH (X Z x2 : α) : α := (F.sub (F.mul x2 (F.mul Z Z)) X)
def plR (Y Z y2 : α) : α := (F.sub (F.mul y2 (F.mul (F.mul Z Z) Z)) Y)
def plX (X Y Z x2 y2 : α) : α := (F.sub (F.sub (F.mul (F.sub (F.mul y2 (F.mul (F.mul Z Z) Z)) Y) (F.sub (F.mul y2 (F.mul (F.mul Z Z) Z)) Y)) (F.mul (F.mul (F.sub (F.mul x2 (F.mul Z Z)) X) (F.sub (F.mul x2 (F.mul Z Z)) X)) (F.sub (F.mul x2 (F.mul Z Z)) X))) (F.add (F.mul X (F.mul (F.sub (F.mul x2 (F.mul Z Z)) X) (F.sub (F.mul x2 (F.mul Z Z)) X))) (F.mul X (F.mul (F.sub (F.mul x2 (F.mul Z Z)) X) (F.sub (F.mul x2 (F.mul Z Z)) X)))))
def plY (X Y Z x2 y2 : α) : α := (F.sub (F.mul (F.sub (F.mul y2 (F.mul (F.mul Z Z) Z)) Y) (F.sub (F.mul X (F.mul (F.sub (F.mul x2 (F.mul Z Z)) X) (F.sub (F.mul x2 (F.mul Z Z)) X))) (F.sub (F.sub (F.mul (F.sub (F.mul y2 (F.mul (F.mul Z Z) Z)) Y) (F.sub (F.mul y2 (F.mul (F.mul Z Z) Z)) Y)) (F.mul (F.mul (F.sub (F.mul x2 (F.mul Z Z)) X) (F.sub (F.mul x2 (F.mul Z Z)) X)) (F.sub (F.mul x2 (F.mul Z Z)) X))) (F.add (F.mul X (F.mul (F.sub (F.mul x2 (F.mul Z Z)) X) (F.sub (F.mul x2 (F.mul Z Z)) X))) (F.mul X (F.mul (F.sub (F.mul x2 (F.mul Z Z)) X) (F.sub (F.mul x2 (F.mul Z Z)) X))))))) (F.mul Y (F.mul (F.mul (F.sub (F.mul x2 (F.mul Z Z)) X) (F.sub (F.mul x2 (F.mul Z Z)) X)) (F.sub (F.mul x2 (F.mul Z Z)) X))))
def plZ (X Z x2 : α) : α := (F.mul Z (F.sub (F.mul x2 (F.mul Z Z)) X))
theorem tw_x {X Y Z l x y : α} (kx : F.Z (F.sub X (F.mul x (F.mul Z Z)))) (ky : F.Z (F.sub Y (F.mul y (F.mul (F.mul Z Z) Z)))) (cc : F.Z (F.sub (F.mul l (F.add y y)) (F.add (F.add (F.mul x x) (F.mul x x)) (F.mul x x)))) : F.Z (F.sub (F.sub (F.mul (F.mul (F.int 3) (F.mul X X)) (F.mul (F.int 3) (F.mul X X))) (F.add (F.mul (F.int 4) (F.mul X (F.mul Y Y))) (F.mul (F.int 4) (F.mul X (F.mul Y Y))))) (F.mul (F.sub (F.sub (F.mul l l) x) x) (F.mul (F.mul (F.int 2) (F.mul Y Z)) (F.mul (F.int 2) (F.mul Y Z))))) := by
  have e : (F.sub (F.sub (F.mul (F.mul (F.int 3) (F.mul X X)) (F.mul (F.int 3) (F.mul X X))) (F.add (F.mul (F.int 4) (F.mul X (F.mul Y Y))) (F.mul (F.int 4) (F.mul X (F.mul Y Y))))) (F.mul (F.sub (F.sub (F.mul l l) x) x) (F.mul (F.mul (F.int 2) (F.mul Y Z)) (F.mul (F.int 2) (F.mul Y Z))))) = (F.add (F.add (F.mul (F.add (F.add (F.add (F.add (F.mul (F.int (-8)) (F.mul Y Y)) (F.mul (F.int 9) (F.mul (F.mul X X) X))) (F.mul (F.mul (F.int 9) (F.mul (F.mul (F.mul (F.mul (F.mul Z Z) Z) Z) Z) Z)) (F.mul (F.mul x x) x))) (F.mul (F.mul (F.mul (F.int 9) X) (F.mul (F.mul (F.mul Z Z) Z) Z)) (F.mul x x))) (F.mul (F.mul (F.mul (F.int 9) x) (F.mul X X)) (F.mul Z Z))) (F.sub X (F.mul x (F.mul Z Z)))) (F.mul (F.add (F.mul (F.mul (F.mul (F.int (-4)) Y) (F.mul Z Z)) (F.mul l l)) (F.mul (F.mul (F.mul (F.int (-4)) y) (F.mul (F.mul (F.mul (F.mul Z Z) Z) Z) Z)) (F.mul l l))) (F.sub Y (F.mul y (F.mul (F.mul Z Z) Z))))) (F.mul (F.add (F.mul (F.mul (F.int (-3)) (F.mul (F.mul (F.mul (F.mul (F.mul (F.mul (F.mul Z Z) Z) Z) Z) Z) Z) Z)) (F.mul x x)) (F.mul (F.mul (F.mul (F.int (-2)) l) y) (F.mul (F.mul (F.mul (F.mul (F.mul (F.mul (F.mul Z Z) Z) Z) Z) Z) Z) Z))) (F.sub (F.mul l (F.add y y)) (F.add (F.add (F.mul x x) (F.mul x x)) (F.mul x x))))) := F.eq_of (fun k_ => match k_ with | 0 => X | 1 => Y | 2 => Z | 3 => l | 4 => x | 5 => y | 6 => X | 7 => X | _ => X) (e := (.s (.s (.m (.m (.n 3) (.m (.v 0) (.v 0))) (.m (.n 3) (.m (.v 0) (.v 0)))) (.a (.m (.n 4) (.m (.v 0) (.m (.v 1) (.v 1)))) (.m (.n 4) (.m (.v 0) (.m (.v 1) (.v 1)))))) (.m (.s (.s (.m (.v 3) (.v 3)) (.v 4)) (.v 4)) (.m (.m (.n 2) (.m (.v 1) (.v 2))) (.m (.n 2) (.m (.v 1) (.v 2))))))) (f := (.a (.a (.m (.a (.a (.a (.a (.m (.n (-8)) (.m (.v 1) (.v 1))) (.m (.n 9) (.m (.m (.v 0) (.v 0)) (.v 0)))) (.m (.m (.n 9) (.m (.m (.m (.m (.m (.v 2) (.v 2)) (.v 2)) (.v 2)) (.v 2)) (.v 2))) (.m (.m (.v 4) (.v 4)) (.v 4)))) (.m (.m (.m (.n 9) (.v 0)) (.m (.m (.m (.v 2) (.v 2)) (.v 2)) (.v 2))) (.m (.v 4) (.v 4)))) (.m (.m (.m (.n 9) (.v 4)) (.m (.v 0) (.v 0))) (.m (.v 2) (.v 2)))) (.s (.v 0) (.m (.v 4) (.m (.v 2) (.v 2))))) (.m (.a (.m (.m (.m (.n (-4)) (.v 1)) (.m (.v 2) (.v 2))) (.m (.v 3) (.v 3))) (.m (.m (.m (.n (-4)) (.v 5)) (.m (.m (.m (.m (.v 2) (.v 2)) (.v 2)) (.v 2)) (.v 2))) (.m (.v 3) (.v 3)))) (.s (.v 1) (.m (.v 5) (.m (.m (.v 2) (.v 2)) (.v 2)))))) (.m (.a (.m (.m (.n (-3)) (.m (.m (.m (.m (.m (.m (.m (.v 2) (.v 2)) (.v 2)) (.v 2)) (.v 2)) (.v 2)) (.v 2)) (.v 2))) (.m (.v 4) (.v 4))) (.m (.m (.m (.n (-2)) (.v 3)) (.v 5)) (.m (.m (.m (.m (.m (.m (.m (.v 2) (.v 2)) (.v 2)) (.v 2)) (.v 2)) (.v 2)) (.v 2)) (.v 2)))) (.s (.m (.v 3) (.a (.v 5) (.v 5))) (.a (.a (.m (.v 4) (.v 4)) (.m (.v 4) (.v 4))) (.m (.v 4) (.v 4))))))) rfl rfl (by decide +kernel)
  rw [e]
  exact (F.za (F.za (F.zm' _ kx) (F.zm' _ ky)) (F.zm' _ cc))
theorem tw_y {X Y Z l x y : α} (kx : F.Z (F.sub X (F.mul x (F.mul Z Z)))) (ky : F.Z (F.sub Y (F.mul y (F.mul (F.mul Z Z) Z)))) (cc : F.Z (F.sub (F.mul l (F.add y y)) (F.add (F.add (F.mul x x) (F.mul x x)) (F.mul x x)))) : F.Z (F.sub (F.sub (F.mul (F.mul (F.int 3) (F.mul X X)) (F.sub (F.mul (F.int 4) (F.mul X (F.mul Y Y))) (F.sub (F.mul (F.mul (F.int 3) (F.mul X X)) (F.mul (F.int 3) (F.mul X X))) (F.add (F.mul (F.int 4) (F.mul X (F.mul Y Y))) (F.mul (F.int 4) (F.mul X (F.mul Y Y))))))) (F.mul (F.int 8) (F.mul (F.mul Y Y) (F.mul Y Y)))) (F.mul (F.sub (F.mul l (F.sub x (F.sub (F.sub (F.mul l l) x) x))) y) (F.mul (F.mul (F.mul (F.int 2) (F.mul Y Z)) (F.mul (F.int 2) (F.mul Y Z))) (F.mul (F.int 2) (F.mul Y Z))))) := by
  have e : (F.sub (F.sub (F.mul (F.mul (F.int 3) (F.mul X X)) (F.sub (F.mul (F.int 4) (F.mul X (F.mul Y Y))) (F.sub (F.mul (F.mul (F.int 3) (F.mul X X)) (F.mul (F.int 3) (F.mul X X))) (F.add (F.mul (F.int 4) (F.mul X (F.mul Y Y))) (F.mul (F.int 4) (F.mul X (F.mul Y Y))))))) (F.mul (F.int 8) (F.mul (F.mul Y Y) (F.mul Y Y)))) (F.mul (F.sub (F.mul l (F.sub x (F.sub (F.sub (F.mul l l) x) x))) y) (F.mul (F.mul (F.mul (F.int 2) (F.mul Y Z)) (F.mul (F.int 2) (F.mul Y Z))) (F.mul (F.int 2) (F.mul Y Z))))) = (F.add (F.add (F.mul (F.add (F.add (F.add (F.add (F.add (F.add (F.add (F.add (F.mul (F.int (-27)) (F.mul (F.mul (F.mul (F.mul X X) X) X) X)) (F.mul (F.mul (F.int (-27)) (F.mul (F.mul (F.mul (F.mul (F.mul (F.mul (F.mul (F.mul (F.mul Z Z) Z) Z) Z) Z) Z) Z) Z) Z)) (F.mul (F.mul (F.mul (F.mul x x) x) x) x))) (F.mul (F.mul (F.int 36) (F.mul X X)) (F.mul Y Y))) (F.mul (F.mul (F.mul (F.int (-27)) X) (F.mul (F.mul (F.mul (F.mul (F.mul (F.mul (F.mul Z Z) Z) Z) Z) Z) Z) Z)) (F.mul (F.mul (F.mul x x) x) x))) (F.mul (F.mul (F.mul (F.int (-27)) x) (F.mul (F.mul (F.mul X X) X) X)) (F.mul Z Z))) (F.mul (F.mul (F.mul (F.int (-27)) (F.mul X X)) (F.mul (F.mul (F.mul (F.mul (F.mul Z Z) Z) Z) Z) Z)) (F.mul (F.mul x x) x))) (F.mul (F.mul (F.mul (F.int (-27)) (F.mul (F.mul X X) X)) (F.mul (F.mul (F.mul Z Z) Z) Z)) (F.mul x x))) (F.mul (F.mul (F.mul (F.int 36) (F.mul Y Y)) (F.mul (F.mul (F.mul Z Z) Z) Z)) (F.mul x x))) (F.mul (F.mul (F.mul (F.mul (F.int 36) X) x) (F.mul Y Y)) (F.mul Z Z))) (F.sub X (F.mul x (F.mul Z Z)))) (F.mul (F.add (F.add (F.add (F.add (F.add (F.add (F.add (F.add (F.mul (F.int (-8)) (F.mul (F.mul Y Y) Y)) (F.mul (F.mul (F.mul (F.int 8) (F.mul Y Y)) (F.mul (F.mul Z Z) Z)) (F.mul (F.mul l l) l))) (F.mul (F.mul (F.mul (F.int 8) (F.mul (F.mul (F.mul (F.mul (F.mul (F.mul (F.mul (F.mul Z Z) Z) Z) Z) Z) Z) Z) Z)) (F.mul (F.mul l l) l)) (F.mul y y))) (F.mul (F.mul (F.mul (F.int 36) Y) (F.mul (F.mul (F.mul (F.mul (F.mul Z Z) Z) Z) Z) Z)) (F.mul (F.mul x x) x))) (F.mul (F.mul (F.mul (F.int 36) y) (F.mul (F.mul (F.mul (F.mul (F.mul (F.mul (F.mul (F.mul Z Z) Z) Z) Z) Z) Z) Z) Z)) (F.mul (F.mul x x) x))) (F.mul (F.mul (F.mul (F.mul (F.int (-24)) l) x) (F.mul Y Y)) (F.mul (F.mul Z Z) Z))) (F.mul (F.mul (F.mul (F.mul (F.int (-24)) l) x) (F.mul (F.mul (F.mul (F.mul (F.mul (F.mul (F.mul (F.mul Z Z) Z) Z) Z) Z) Z) Z) Z)) (F.mul y y))) (F.mul (F.mul (F.mul (F.mul (F.int 8) Y) y) (F.mul (F.mul (F.mul (F.mul (F.mul Z Z) Z) Z) Z) Z)) (F.mul (F.mul l l) l))) (F.mul (F.mul (F.mul (F.mul (F.mul (F.int (-24)) Y) l) x) y) (F.mul (F.mul (F.mul (F.mul (F.mul Z Z) Z) Z) Z) Z))) (F.sub Y (F.mul y (F.mul (F.mul Z Z) Z))))) (F.mul (F.add (F.add (F.add (F.mul (F.mul (F.int 9) (F.mul (F.mul (F.mul (F.mul (F.mul (F.mul (F.mul (F.mul (F.mul (F.mul (F.mul Z Z) Z) Z) Z) Z) Z) Z) Z) Z) Z) Z)) (F.mul (F.mul (F.mul x x) x) x)) (F.mul (F.mul (F.mul (F.int (-12)) x) (F.mul (F.mul (F.mul (F.mul (F.mul (F.mul (F.mul (F.mul (F.mul (F.mul (F.mul Z Z) Z) Z) Z) Z) Z) Z) Z) Z) Z) Z)) (F.mul y y))) (F.mul (F.mul (F.mul (F.int 4) (F.mul (F.mul (F.mul (F.mul (F.mul (F.mul (F.mul (F.mul (F.mul (F.mul (F.mul Z Z) Z) Z) Z) Z) Z) Z) Z) Z) Z) Z)) (F.mul l l)) (F.mul y y))) (F.mul (F.mul (F.mul (F.mul (F.int 6) l) y) (F.mul (F.mul (F.mul (F.mul (F.mul (F.mul (F.mul (F.mul (F.mul (F.mul (F.mul Z Z) Z) Z) Z) Z) Z) Z) Z) Z) Z) Z)) (F.mul x x))) (F.sub (F.mul l (F.add y y)) (F.add (F.add (F.mul x x) (F.mul x x)) (F.mul x x))))) := F.eq_of (fun k_ => match k_ with | 0 => X | 1 => Y | 2 => Z | 3 => l | 4 => x | 5 => y | 6 => X | 7 => X | _ => X) (e := (.s (.s (.m (.m (.n 3) (.m (.v 0) (.v 0))) (.s (.m (.n 4) (.m (.v 0) (.m (.v 1) (.v 1)))) (.s (.m (.m (.n 3) (.m (.v 0) (.v 0))) (.m (.n 3) (.m (.v 0) (.v 0)))) (.a (.m (.n 4) (.m (.v 0) (.m (.v 1) (.v 1)))) (.m (.n 4) (.m (.v 0) (.m (.v 1) (.v 1)))))))) (.m (.n 8) (.m (.m (.v 1) (.v 1)) (.m (.v 1) (.v 1))))) (.m (.s (.m (.v 3) (.s (.v 4) (.s (.s (.m (.v 3) (.v 3)) (.v 4)) (.v 4)))) (.v 5)) (.m (.m (.m (.n 2) (.m (.v 1) (.v 2))) (.m (.n 2) (.m (.v 1) (.v 2)))) (.m (.n 2) (.m (.v 1) (.v 2))))))) (f := (.a (.a (.m (.a (.a (.a (.a (.a (.a (.a (.a (.m (.n (-27)) (.m (.m (.m (.m (.v 0) (.v 0)) (.v 0)) (.v 0)) (.v 0))) (.m (.m (.n (-27)) (.m (.m (.m (.m (.m (.m (.m (.m (.m (.v 2) (.v 2)) (.v 2)) (.v 2)) (.v 2)) (.v 2)) (.v 2)) (.v 2)) (.v 2)) (.v 2))) (.m (.m (.m (.m (.v 4) (.v 4)) (.v 4)) (.v 4)) (.v 4)))) (.m (.m (.n 36) (.m (.v 0) (.v 0))) (.m (.v 1) (.v 1)))) (.m (.m (.m (.n (-27)) (.v 0)) (.m (.m (.m (.m (.m (.m (.m (.v 2) (.v 2)) (.v 2)) (.v 2)) (.v 2)) (.v 2)) (.v 2)) (.v 2))) (.m (.m (.m (.v 4) (.v 4)) (.v 4)) (.v 4)))) (.m (.m (.m (.n (-27)) (.v 4)) (.m (.m (.m (.v 0) (.v 0)) (.v 0)) (.v 0))) (.m (.v 2) (.v 2)))) (.m (.m (.m (.n (-27)) (.m (.v 0) (.v 0))) (.m (.m (.m (.m (.m (.v 2) (.v 2)) (.v 2)) (.v 2)) (.v 2)) (.v 2))) (.m (.m (.v 4) (.v 4)) (.v 4)))) (.m (.m (.m (.n (-27)) (.m (.m (.v 0) (.v 0)) (.v 0))) (.m (.m (.m (.v 2) (.v 2)) (.v 2)) (.v 2))) (.m (.v 4) (.v 4)))) (.m (.m (.m (.n 36) (.m (.v 1) (.v 1))) (.m (.m (.m (.v 2) (.v 2)) (.v 2)) (.v 2))) (.m (.v 4) (.v 4)))) (.m (.m (.m (.m (.n 36) (.v 0)) (.v 4)) (.m (.v 1) (.v 1))) (.m (.v 2) (.v 2)))) (.s (.v 0) (.m (.v 4) (.m (.v 2) (.v 2))))) (.m (.a (.a (.a (.a (.a (.a (.a (.a (.m (.n (-8)) (.m (.m (.v 1) (.v 1)) (.v 1))) (.m (.m (.m (.n 8) (.m (.v 1) (.v 1))) (.m (.m (.v 2) (.v 2)) (.v 2))) (.m (.m (.v 3) (.v 3)) (.v 3)))) (.m (.m (.m (.n 8) (.m (.m (.m (.m (.m (.m (.m (.m (.v 2) (.v 2)) (.v 2)) (.v 2)) (.v 2)) (.v 2)) (.v 2)) (.v 2)) (.v 2))) (.m (.m (.v 3) (.v 3)) (.v 3))) (.m (.v 5) (.v 5)))) (.m (.m (.m (.n 36) (.v 1)) (.m (.m (.m (.m (.m (.v 2) (.v 2)) (.v 2)) (.v 2)) (.v 2)) (.v 2))) (.m (.m (.v 4) (.v 4)) (.v 4)))) (.m (.m (.m (.n 36) (.v 5)) (.m (.m (.m (.m (.m (.m (.m (.m (.v 2) (.v 2)) (.v 2)) (.v 2)) (.v 2)) (.v 2)) (.v 2)) (.v 2)) (.v 2))) (.m (.m (.v 4) (.v 4)) (.v 4)))) (.m (.m (.m (.m (.n (-24)) (.v 3)) (.v 4)) (.m (.v 1) (.v 1))) (.m (.m (.v 2) (.v 2)) (.v 2)))) (.m (.m (.m (.m (.n (-24)) (.v 3)) (.v 4)) (.m (.m (.m (.m (.m (.m (.m (.m (.v 2) (.v 2)) (.v 2)) (.v 2)) (.v 2)) (.v 2)) (.v 2)) (.v 2)) (.v 2))) (.m (.v 5) (.v 5)))) (.m (.m (.m (.m (.n 8) (.v 1)) (.v 5)) (.m (.m (.m (.m (.m (.v 2) (.v 2)) (.v 2)) (.v 2)) (.v 2)) (.v 2))) (.m (.m (.v 3) (.v 3)) (.v 3)))) (.m (.m (.m (.m (.m (.n (-24)) (.v 1)) (.v 3)) (.v 4)) (.v 5)) (.m (.m (.m (.m (.m (.v 2) (.v 2)) (.v 2)) (.v 2)) (.v 2)) (.v 2)))) (.s (.v 1) (.m (.v 5) (.m (.m (.v 2) (.v 2)) (.v 2)))))) (.m (.a (.a (.a (.m (.m (.n 9) (.m (.m (.m (.m (.m (.m (.m (.m (.m (.m (.m (.v 2) (.v 2)) (.v 2)) (.v 2)) (.v 2)) (.v 2)) (.v 2)) (.v 2)) (.v 2)) (.v 2)) (.v 2)) (.v 2))) (.m (.m (.m (.v 4) (.v 4)) (.v 4)) (.v 4))) (.m (.m (.m (.n (-12)) (.v 4)) (.m (.m (.m (.m (.m (.m (.m (.m (.m (.m (.m (.v 2) (.v 2)) (.v 2)) (.v 2)) (.v 2)) (.v 2)) (.v 2)) (.v 2)) (.v 2)) (.v 2)) (.v 2)) (.v 2))) (.m (.v 5) (.v 5)))) (.m (.m (.m (.n 4) (.m (.m (.m (.m (.m (.m (.m (.m (.m (.m (.m (.v 2) (.v 2)) (.v 2)) (.v 2)) (.v 2)) (.v 2)) (.v 2)) (.v 2)) (.v 2)) (.v 2)) (.v 2)) (.v 2))) (.m (.v 3) (.v 3))) (.m (.v 5) (.v 5)))) (.m (.m (.m (.m (.n 6) (.v 3)) (.v 5)) (.m (.m (.m (.m (.m (.m (.m (.m (.m (.m (.m (.v 2) (.v 2)) (.v 2)) (.v 2)) (.v 2)) (.v 2)) (.v 2)) (.v 2)) (.v 2)) (.v 2)) (.v 2)) (.v 2))) (.m (.v 4) (.v 4)))) (.s (.m (.v 3) (.a (.v 5) (.v 5))) (.a (.a (.m (.v 4) (.v 4)) (.m (.v 4) (.v 4))) (.m (.v 4) (.v 4))))))) rfl rfl (by decide +kernel)
  rw [e]
  exact (F.za (F.za (F.zm' _ kx) (F.zm' _ ky)) (F.zm' _ cc))
theorem tw_o {Y Z y : α} (ky : F.Z (F.sub Y (F.mul y (F.mul (F.mul Z Z) Z)))) (ho : F.Z (F.add y y)) : F.Z (F.mul (F.int 2) (F.mul Y Z)) := by
  have e : (F.mul (F.int 2) (F.mul Y Z)) = (F.add (F.mul (F.mul (F.int 2) Z) (F.sub Y (F.mul y (F.mul (F.mul Z Z) Z)))) (F.mul (F.mul (F.mul (F.mul Z Z) Z) Z) (F.add y y))) := F.eq_of (fun k_ => match k_ with | 0 => Y | 1 => Y | 2 => Z | 3 => Y | 4 => Y | 5 => y | 6 => Y | 7 => Y | _ => Y) (e := (.m (.n 2) (.m (.v 1) (.v 2)))) (f := (.a (.m (.m (.n 2) (.v 2)) (.s (.v 1) (.m (.v 5) (.m (.m (.v 2) (.v 2)) (.v 2))))) (.m (.m (.m (.m (.v 2) (.v 2)) (.v 2)) (.v 2)) (.a (.v 5) (.v 5))))) rfl rfl (by decide +kernel)
  rw [e]
  exact (F.za (F.zm' _ ky) (F.zm' _ ho))
theorem tw_n {Y Z y : α} (ky : F.Z (F.sub Y (F.mul y (F.mul (F.mul Z Z) Z)))) (hY : F.Z Y) : F.Z (F.mul y (F.mul (F.mul Z Z) Z)) := by
  have e : (F.mul y (F.mul (F.mul Z Z) Z)) = (F.add (F.mul (F.int (-1)) (F.sub Y (F.mul y (F.mul (F.mul Z Z) Z)))) (F.mul (F.int 1) Y)) := F.eq_of (fun k_ => match k_ with | 0 => Y | 1 => Y | 2 => Z | 3 => Y | 4 => Y | 5 => y | 6 => Y | 7 => Y | _ => Y) (e := (.m (.v 5) (.m (.m (.v 2) (.v 2)) (.v 2)))) (f := (.a (.m (.n (-1)) (.s (.v 1) (.m (.v 5) (.m (.m (.v 2) (.v 2)) (.v 2))))) (.m (.n 1) (.v 1)))) rfl rfl (by decide +kernel)
  rw [e]
  exact (F.za (F.zm' _ ky) (F.zm' _ hY))
theorem pl_x {X Y Z l x y x2 y2 : α} (kx : F.Z (F.sub X (F.mul x (F.mul Z Z)))) (ky : F.Z (F.sub Y (F.mul y (F.mul (F.mul Z Z) Z)))) (c3 : F.Z (F.sub (F.sub y y2) (F.mul l (F.sub x x2)))) : F.Z (F.sub (F.sub (F.sub (F.mul (F.sub (F.mul y2 (F.mul (F.mul Z Z) Z)) Y) (F.sub (F.mul y2 (F.mul (F.mul Z Z) Z)) Y)) (F.mul (F.mul (F.sub (F.mul x2 (F.mul Z Z)) X) (F.sub (F.mul x2 (F.mul Z Z)) X)) (F.sub (F.mul x2 (F.mul Z Z)) X))) (F.add (F.mul X (F.mul (F.sub (F.mul x2 (F.mul Z Z)) X) (F.sub (F.mul x2 (F.mul Z Z)) X))) (F.mul X (F.mul (F.sub (F.mul x2 (F.mul Z Z)) X) (F.sub (F.mul x2 (F.mul Z Z)) X))))) (F.mul (F.sub (F.sub (F.mul l l) x) x2) (F.mul (F.mul Z (F.sub (F.mul x2 (F.mul Z Z)) X)) (F.mul Z (F.sub (F.mul x2 (F.mul Z Z)) X))))) := by
  have e : (F.sub (F.sub (F.sub (F.mul (F.sub (F.mul y2 (F.mul (F.mul Z Z) Z)) Y) (F.sub (F.mul y2 (F.mul (F.mul Z Z) Z)) Y)) (F.mul (F.mul (F.sub (F.mul x2 (F.mul Z Z)) X) (F.sub (F.mul x2 (F.mul Z Z)) X)) (F.sub (F.mul x2 (F.mul Z Z)) X))) (F.add (F.mul X (F.mul (F.sub (F.mul x2 (F.mul Z Z)) X) (F.sub (F.mul x2 (F.mul Z Z)) X))) (F.mul X (F.mul (F.sub (F.mul x2 (F.mul Z Z)) X) (F.sub (F.mul x2 (F.mul Z Z)) X))))) (F.mul (F.sub (F.sub (F.mul l l) x) x2) (F.mul (F.mul Z (F.sub (F.mul x2 (F.mul Z Z)) X)) (F.mul Z (F.sub (F.mul x2 (F.mul Z Z)) X))))) = (F.add (F.add (F.mul (F.add (F.add (F.add (F.add (F.add (F.mul (F.int (-1)) (F.mul X X)) (F.mul (F.mul (F.int (-1)) (F.mul (F.mul (F.mul Z Z) Z) Z)) (F.mul x2 x2))) (F.mul (F.mul (F.mul (F.int (-1)) X) (F.mul Z Z)) (F.mul l l))) (F.mul (F.mul (F.mul (F.int (-1)) x) (F.mul (F.mul (F.mul Z Z) Z) Z)) (F.mul l l))) (F.mul (F.mul (F.mul (F.int 2) X) x2) (F.mul Z Z))) (F.mul (F.mul (F.mul (F.int 2) x2) (F.mul (F.mul (F.mul Z Z) Z) Z)) (F.mul l l))) (F.sub X (F.mul x (F.mul Z Z)))) (F.mul (F.add (F.add Y (F.mul y (F.mul (F.mul Z Z) Z))) (F.mul (F.mul (F.int (-2)) y2) (F.mul (F.mul Z Z) Z))) (F.sub Y (F.mul y (F.mul (F.mul Z Z) Z))))) (F.mul (F.add (F.add (F.add (F.mul y (F.mul (F.mul (F.mul (F.mul (F.mul Z Z) Z) Z) Z) Z)) (F.mul (F.mul (F.int (-1)) y2) (F.mul (F.mul (F.mul (F.mul (F.mul Z Z) Z) Z) Z) Z))) (F.mul (F.mul l x) (F.mul (F.mul (F.mul (F.mul (F.mul Z Z) Z) Z) Z) Z))) (F.mul (F.mul (F.mul (F.int (-1)) l) x2) (F.mul (F.mul (F.mul (F.mul (F.mul Z Z) Z) Z) Z) Z))) (F.sub (F.sub y y2) (F.mul l (F.sub x x2))))) := F.eq_of (fun k_ => match k_ with | 0 => X | 1 => Y | 2 => Z | 3 => l | 4 => x | 5 => y | 6 => x2 | 7 => y2 | _ => X) (e := (.s (.s (.s (.m (.s (.m (.v 7) (.m (.m (.v 2) (.v 2)) (.v 2))) (.v 1)) (.s (.m (.v 7) (.m (.m (.v 2) (.v 2)) (.v 2))) (.v 1))) (.m (.m (.s (.m (.v 6) (.m (.v 2) (.v 2))) (.v 0)) (.s (.m (.v 6) (.m (.v 2) (.v 2))) (.v 0))) (.s (.m (.v 6) (.m (.v 2) (.v 2))) (.v 0)))) (.a (.m (.v 0) (.m (.s (.m (.v 6) (.m (.v 2) (.v 2))) (.v 0)) (.s (.m (.v 6) (.m (.v 2) (.v 2))) (.v 0)))) (.m (.v 0) (.m (.s (.m (.v 6) (.m (.v 2) (.v 2))) (.v 0)) (.s (.m (.v 6) (.m (.v 2) (.v 2))) (.v 0)))))) (.m (.s (.s (.m (.v 3) (.v 3)) (.v 4)) (.v 6)) (.m (.m (.v 2) (.s (.m (.v 6) (.m (.v 2) (.v 2))) (.v 0))) (.m (.v 2) (.s (.m (.v 6) (.m (.v 2) (.v 2))) (.v 0))))))) (f := (.a (.a (.m (.a (.a (.a (.a (.a (.m (.n (-1)) (.m (.v 0) (.v 0))) (.m (.m (.n (-1)) (.m (.m (.m (.v 2) (.v 2)) (.v 2)) (.v 2))) (.m (.v 6) (.v 6)))) (.m (.m (.m (.n (-1)) (.v 0)) (.m (.v 2) (.v 2))) (.m (.v 3) (.v 3)))) (.m (.m (.m (.n (-1)) (.v 4)) (.m (.m (.m (.v 2) (.v 2)) (.v 2)) (.v 2))) (.m (.v 3) (.v 3)))) (.m (.m (.m (.n 2) (.v 0)) (.v 6)) (.m (.v 2) (.v 2)))) (.m (.m (.m (.n 2) (.v 6)) (.m (.m (.m (.v 2) (.v 2)) (.v 2)) (.v 2))) (.m (.v 3) (.v 3)))) (.s (.v 0) (.m (.v 4) (.m (.v 2) (.v 2))))) (.m (.a (.a (.v 1) (.m (.v 5) (.m (.m (.v 2) (.v 2)) (.v 2)))) (.m (.m (.n (-2)) (.v 7)) (.m (.m (.v 2) (.v 2)) (.v 2)))) (.s (.v 1) (.m (.v 5) (.m (.m (.v 2) (.v 2)) (.v 2)))))) (.m (.a (.a (.a (.m (.v 5) (.m (.m (.m (.m (.m (.v 2) (.v 2)) (.v 2)) (.v 2)) (.v 2)) (.v 2))) (.m (.m (.n (-1)) (.v 7)) (.m (.m (.m (.m (.m (.v 2) (.v 2)) (.v 2)) (.v 2)) (.v 2)) (.v 2)))) (.m (.m (.v 3) (.v 4)) (.m (.m (.m (.m (.m (.v 2) (.v 2)) (.v 2)) (.v 2)) (.v 2)) (.v 2)))) (.m (.m (.m (.n (-1)) (.v 3)) (.v 6)) (.m (.m (.m (.m (.m (.v 2) (.v 2)) (.v 2)) (.v 2)) (.v 2)) (.v 2)))) (.s (.s (.v 5) (.v 7)) (.m (.v 3) (.s (.v 4) (.v 6))))))) rfl rfl (by decide +kernel)
  rw [e]
  exact (F.za (F.za (F.zm' _ kx) (F.zm' _ ky)) (F.zm' _ c3))
theorem pl_y {X Y Z l x y x2 y2 : α} (kx : F.Z (F.sub X (F.mul x (F.mul Z Z)))) (ky : F.Z (F.sub Y (F.mul y (F.mul (F.mul Z Z) Z)))) (c3 : F.Z (F.sub (F.sub y y2) (F.mul l (F.sub x x2)))) : F.Z (F.sub (F.sub (F.mul (F.sub (F.mul y2 (F.mul (F.mul Z Z) Z)) Y) (F.sub (F.mul X (F.mul (F.sub (F.mul x2 (F.mul Z Z)) X) (F.sub (F.mul x2 (F.mul Z Z)) X))) (F.sub (F.sub (F.mul (F.sub (F.mul y2 (F.mul (F.mul Z Z) Z)) Y) (F.sub (F.mul y2 (F.mul (F.mul Z Z) Z)) Y)) (F.mul (F.mul (F.sub (F.mul x2 (F.mul Z Z)) X) (F.sub (F.mul x2 (F.mul Z Z)) X)) (F.sub (F.mul x2 (F.mul Z Z)) X))) (F.add (F.mul X (F.mul (F.sub (F.mul x2 (F.mul Z Z)) X) (F.sub (F.mul x2 (F.mul Z Z)) X))) (F.mul X (F.mul (F.sub (F.mul x2 (F.mul Z Z)) X) (F.sub (F.mul x2 (F.mul Z Z)) X))))))) (F.mul Y (F.mul (F.mul (F.sub (F.mul x2 (F.mul Z Z)) X) (F.sub (F.mul x2 (F.mul Z Z)) X)) (F.sub (F.mul x2 (F.mul Z Z)) X)))) (F.mul (F.sub (F.mul l (F.sub x (F.sub (F.sub (F.mul l l) x) x2))) y) (F.mul (F.mul (F.mul Z (F.sub (F.mul x2 (F.mul Z Z)) X)) (F.mul Z (F.sub (F.mul x2 (F.mul Z Z)) X))) (F.mul Z (F.sub (F.mul x2 (F.mul Z Z)) X))))) := by
  have e : (F.sub (F.sub (F.mul (F.sub (F.mul y2 (F.mul (F.mul Z Z) Z)) Y) (F.sub (F.mul X (F.mul (F.sub (F.mul x2 (F.mul Z Z)) X) (F.sub (F.mul x2 (F.mul Z Z)) X))) (F.sub (F.sub (F.mul (F.sub (F.mul y2 (F.mul (F.mul Z Z) Z)) Y) (F.sub (F.mul y2 (F.mul (F.mul Z Z) Z)) Y)) (F.mul (F.mul (F.sub (F.mul x2 (F.mul Z Z)) X) (F.sub (F.mul x2 (F.mul Z Z)) X)) (F.sub (F.mul x2 (F.mul Z Z)) X))) (F.add (F.mul X (F.mul (F.sub (F.mul x2 (F.mul Z Z)) X) (F.sub (F.mul x2 (F.mul Z Z)) X))) (F.mul X (F.mul (F.sub (F.mul x2 (F.mul Z Z)) X) (F.sub (F.mul x2 (F.mul Z Z)) X))))))) (F.mul Y (F.mul (F.mul (F.sub (F.mul x2 (F.mul Z Z)) X) (F.sub (F.mul x2 (F.mul Z Z)) X)) (F.sub (F.mul x2 (F.mul Z Z)) X)))) (F.mul (F.sub (F.mul l (F.sub x (F.sub (F.sub (F.mul l l) x) x2))) y) (F.mul (F.mul (F.mul Z (F.sub (F.mul x2 (F.mul Z Z)) X)) (F.mul Z (F.sub (F.mul x2 (F.mul Z Z)) X))) (F.mul Z (F.sub (F.mul x2 (F.mul Z Z)) X))))) = (F.add (F.add (F.mul (F.add (F.add (F.add (F.add (F.add (F.add (F.add (F.add (F.add (F.add (F.add (F.add (F.add (F.add (F.add (F.add (F.add (F.add (F.add (F.add (F.add (F.add (F.add (F.add (F.add (F.add (F.add (F.add (F.add (F.mul (F.mul (F.int (-1)) Y) (F.mul X X)) (F.mul (F.mul (F.mul (F.int (-1)) Y) (F.mul (F.mul (F.mul Z Z) Z) Z)) (F.mul x x))) (F.mul (F.mul (F.mul (F.int (-1)) y) (F.mul X X)) (F.mul (F.mul Z Z) Z))) (F.mul (F.mul (F.mul (F.int (-1)) y) (F.mul (F.mul (F.mul (F.mul (F.mul (F.mul Z Z) Z) Z) Z) Z) Z)) (F.mul x x))) (F.mul (F.mul (F.mul (F.int (-1)) (F.mul X X)) (F.mul (F.mul Z Z) Z)) (F.mul (F.mul l l) l))) (F.mul (F.mul (F.mul (F.int (-1)) (F.mul (F.mul (F.mul (F.mul (F.mul (F.mul Z Z) Z) Z) Z) Z) Z)) (F.mul (F.mul l l) l)) (F.mul x x))) (F.mul (F.mul (F.mul (F.int (-3)) y) (F.mul (F.mul (F.mul (F.mul (F.mul (F.mul Z Z) Z) Z) Z) Z) Z)) (F.mul x2 x2))) (F.mul (F.mul (F.mul (F.int (-3)) (F.mul (F.mul (F.mul (F.mul (F.mul (F.mul Z Z) Z) Z) Z) Z) Z)) (F.mul (F.mul l l) l)) (F.mul x2 x2))) (F.mul (F.mul (F.mul (F.int 2) l) (F.mul (F.mul (F.mul (F.mul (F.mul (F.mul Z Z) Z) Z) Z) Z) Z)) (F.mul (F.mul x x) x))) (F.mul (F.mul (F.mul (F.int 2) y2) (F.mul X X)) (F.mul (F.mul Z Z) Z))) (F.mul (F.mul (F.mul (F.int 2) y2) (F.mul (F.mul (F.mul (F.mul (F.mul (F.mul Z Z) Z) Z) Z) Z) Z)) (F.mul x x))) (F.mul (F.mul (F.mul (F.int 3) Y) (F.mul (F.mul (F.mul Z Z) Z) Z)) (F.mul x2 x2))) (F.mul (F.mul (F.mul (F.int 3) l) (F.mul (F.mul (F.mul (F.mul (F.mul (F.mul Z Z) Z) Z) Z) Z) Z)) (F.mul (F.mul x2 x2) x2))) (F.mul (F.mul (F.mul l x2) (F.mul X X)) (F.mul (F.mul Z Z) Z))) (F.mul (F.mul (F.mul (F.mul (F.int (-1)) X) Y) x) (F.mul Z Z))) (F.mul (F.mul (F.mul (F.mul (F.int (-1)) X) x) y) (F.mul (F.mul (F.mul (F.mul Z Z) Z) Z) Z))) (F.mul (F.mul (F.mul (F.mul (F.int (-1)) X) x) (F.mul (F.mul (F.mul (F.mul Z Z) Z) Z) Z)) (F.mul (F.mul l l) l))) (F.mul (F.mul (F.mul (F.mul (F.int (-5)) l) x2) (F.mul (F.mul (F.mul (F.mul (F.mul (F.mul Z Z) Z) Z) Z) Z) Z)) (F.mul x x))) (F.mul (F.mul (F.mul (F.mul (F.int (-3)) X) l) (F.mul (F.mul (F.mul (F.mul Z Z) Z) Z) Z)) (F.mul x2 x2))) (F.mul (F.mul (F.mul (F.mul (F.int (-3)) X) x2) y2) (F.mul (F.mul (F.mul (F.mul Z Z) Z) Z) Z))) (F.mul (F.mul (F.mul (F.mul (F.int (-3)) x) x2) y2) (F.mul (F.mul (F.mul (F.mul (F.mul (F.mul Z Z) Z) Z) Z) Z) Z))) (F.mul (F.mul (F.mul (F.mul (F.int 2) X) l) (F.mul (F.mul (F.mul (F.mul Z Z) Z) Z) Z)) (F.mul x x))) (F.mul (F.mul (F.mul (F.mul (F.int 2) X) x) y2) (F.mul (F.mul (F.mul (F.mul Z Z) Z) Z) Z))) (F.mul (F.mul (F.mul (F.mul (F.int 2) l) x) (F.mul X X)) (F.mul (F.mul Z Z) Z))) (F.mul (F.mul (F.mul (F.mul (F.int 3) X) x2) y) (F.mul (F.mul (F.mul (F.mul Z Z) Z) Z) Z))) (F.mul (F.mul (F.mul (F.mul (F.int 3) X) x2) (F.mul (F.mul (F.mul (F.mul Z Z) Z) Z) Z)) (F.mul (F.mul l l) l))) (F.mul (F.mul (F.mul (F.mul (F.int 3) l) x) (F.mul (F.mul (F.mul (F.mul (F.mul (F.mul Z Z) Z) Z) Z) Z) Z)) (F.mul x2 x2))) (F.mul (F.mul (F.mul (F.mul (F.int 3) x) x2) y) (F.mul (F.mul (F.mul (F.mul (F.mul (F.mul Z Z) Z) Z) Z) Z) Z))) (F.mul (F.mul (F.mul (F.mul (F.int 3) x) x2) (F.mul (F.mul (F.mul (F.mul (F.mul (F.mul Z Z) Z) Z) Z) Z) Z)) (F.mul (F.mul l l) l))) (F.mul (F.mul (F.mul (F.mul (F.mul (F.int (-5)) X) l) x) x2) (F.mul (F.mul (F.mul (F.mul Z Z) Z) Z) Z))) (F.sub X (F.mul x (F.mul Z Z)))) (F.mul (F.add (F.add (F.add (F.add (F.add (F.add (F.add (F.add (F.mul Y Y) (F.mul (F.mul (F.mul (F.mul (F.mul (F.mul Z Z) Z) Z) Z) Z) (F.mul y y))) (F.mul (F.mul (F.int (-1)) (F.mul (F.mul (F.mul (F.mul (F.mul Z Z) Z) Z) Z) Z)) (F.mul (F.mul x x) x))) (F.mul (F.mul (F.int (-2)) (F.mul (F.mul (F.mul (F.mul (F.mul Z Z) Z) Z) Z) Z)) (F.mul (F.mul x2 x2) x2))) (F.mul (F.mul (F.int 3) (F.mul (F.mul (F.mul (F.mul (F.mul Z Z) Z) Z) Z) Z)) (F.mul y2 y2))) (F.mul (F.mul Y y) (F.mul (F.mul Z Z) Z))) (F.mul (F.mul (F.mul (F.int (-3)) Y) y2) (F.mul (F.mul Z Z) Z))) (F.mul (F.mul (F.mul (F.int (-3)) y) y2) (F.mul (F.mul (F.mul (F.mul (F.mul Z Z) Z) Z) Z) Z))) (F.mul (F.mul (F.mul (F.int 3) x) (F.mul (F.mul (F.mul (F.mul (F.mul Z Z) Z) Z) Z) Z)) (F.mul x2 x2))) (F.sub Y (F.mul y (F.mul (F.mul Z Z) Z))))) (F.mul (F.add (F.add (F.add (F.add (F.add (F.add (F.add (F.add (F.add (F.add (F.add (F.add (F.mul (F.mul (F.mul (F.mul (F.mul (F.mul (F.mul (F.mul (F.mul Z Z) Z) Z) Z) Z) Z) Z) Z) (F.mul y y)) (F.mul (F.mul (F.mul (F.mul (F.mul (F.mul (F.mul (F.mul (F.mul Z Z) Z) Z) Z) Z) Z) Z) Z) (F.mul y2 y2))) (F.mul (F.mul (F.int (-1)) (F.mul (F.mul (F.mul (F.mul (F.mul (F.mul (F.mul (F.mul Z Z) Z) Z) Z) Z) Z) Z) Z)) (F.mul (F.mul x2 x2) x2))) (F.mul (F.mul (F.int (-2)) (F.mul (F.mul (F.mul (F.mul (F.mul (F.mul (F.mul (F.mul Z Z) Z) Z) Z) Z) Z) Z) Z)) (F.mul (F.mul x x) x))) (F.mul (F.mul (F.mul (F.mul (F.mul (F.mul (F.mul (F.mul (F.mul (F.mul Z Z) Z) Z) Z) Z) Z) Z) Z) (F.mul l l)) (F.mul x x))) (F.mul (F.mul (F.mul (F.mul (F.mul (F.mul (F.mul (F.mul (F.mul (F.mul Z Z) Z) Z) Z) Z) Z) Z) Z) (F.mul l l)) (F.mul x2 x2))) (F.mul (F.mul (F.mul (F.int (-2)) y) y2) (F.mul (F.mul (F.mul (F.mul (F.mul (F.mul (F.mul (F.mul Z Z) Z) Z) Z) Z) Z) Z) Z))) (F.mul (F.mul (F.mul (F.int 3) x2) (F.mul (F.mul (F.mul (F.mul (F.mul (F.mul (F.mul (F.mul Z Z) Z) Z) Z) Z) Z) Z) Z)) (F.mul x x))) (F.mul (F.mul (F.mul l x) y) (F.mul (F.mul (F.mul (F.mul (F.mul (F.mul (F.mul (F.mul Z Z) Z) Z) Z) Z) Z) Z) Z))) (F.mul (F.mul (F.mul l x2) y2) (F.mul (F.mul (F.mul (F.mul (F.mul (F.mul (F.mul (F.mul Z Z) Z) Z) Z) Z) Z) Z) Z))) (F.mul (F.mul (F.mul (F.mul (F.int (-1)) l) x) y2) (F.mul (F.mul (F.mul (F.mul (F.mul (F.mul (F.mul (F.mul Z Z) Z) Z) Z) Z) Z) Z) Z))) (F.mul (F.mul (F.mul (F.mul (F.int (-1)) l) x2) y) (F.mul (F.mul (F.mul (F.mul (F.mul (F.mul (F.mul (F.mul Z Z) Z) Z) Z) Z) Z) Z) Z))) (F.mul (F.mul (F.mul (F.mul (F.int (-2)) x) x2) (F.mul (F.mul (F.mul (F.mul (F.mul (F.mul (F.mul (F.mul Z Z) Z) Z) Z) Z) Z) Z) Z)) (F.mul l l))) (F.sub (F.sub y y2) (F.mul l (F.sub x x2))))) := F.eq_of (fun k_ => match k_ with | 0 => X | 1 => Y | 2 => Z | 3 => l | 4 => x | 5 => y | 6 => x2 | 7 => y2 | _ => X) (e := (.s (.s (.m (.s (.m (.v 7) (.m (.m (.v 2) (.v 2)) (.v 2))) (.v 1)) (.s (.m (.v 0) (.m (.s (.m (.v 6) (.m (.v 2) (.v 2))) (.v 0)) (.s (.m (.v 6) (.m (.v 2) (.v 2))) (.v 0)))) (.s (.s (.m (.s (.m (.v 7) (.m (.m (.v 2) (.v 2)) (.v 2))) (.v 1)) (.s (.m (.v 7) (.m (.m (.v 2) (.v 2)) (.v 2))) (.v 1))) (.m (.m (.s (.m (.v 6) (.m (.v 2) (.v 2))) (.v 0)) (.s (.m (.v 6) (.m (.v 2) (.v 2))) (.v 0))) (.s (.m (.v 6) (.m (.v 2) (.v 2))) (.v 0)))) (.a (.m (.v 0) (.m (.s (.m (.v 6) (.m (.v 2) (.v 2))) (.v 0)) (.s (.m (.v 6) (.m (.v 2) (.v 2))) (.v 0)))) (.m (.v 0) (.m (.s (.m (.v 6) (.m (.v 2) (.v 2))) (.v 0)) (.s (.m (.v 6) (.m (.v 2) (.v 2))) (.v 0)))))))) (.m (.v 1) (.m (.m (.s (.m (.v 6) (.m (.v 2) (.v 2))) (.v 0)) (.s (.m (.v 6) (.m (.v 2) (.v 2))) (.v 0))) (.s (.m (.v 6) (.m (.v 2) (.v 2))) (.v 0))))) (.m (.s (.m (.v 3) (.s (.v 4) (.s (.s (.m (.v 3) (.v 3)) (.v 4)) (.v 6)))) (.v 5)) (.m (.m (.m (.v 2) (.s (.m (.v 6) (.m (.v 2) (.v 2))) (.v 0))) (.m (.v 2) (.s (.m (.v 6) (.m (.v 2) (.v 2))) (.v 0)))) (.m (.v 2) (.s (.m (.v 6) (.m (.v 2) (.v 2))) (.v 0))))))) (f := (.a (.a (.m (.a (.a (.a (.a (.a (.a (.a (.a (.a (.a (.a (.a (.a (.a (.a (.a (.a (.a (.a (.a (.a (.a (.a (.a (.a (.a (.a (.a (.a (.m (.m (.n (-1)) (.v 1)) (.m (.v 0) (.v 0))) (.m (.m (.m (.n (-1)) (.v 1)) (.m (.m (.m (.v 2) (.v 2)) (.v 2)) (.v 2))) (.m (.v 4) (.v 4)))) (.m (.m (.m (.n (-1)) (.v 5)) (.m (.v 0) (.v 0))) (.m (.m (.v 2) (.v 2)) (.v 2)))) (.m (.m (.m (.n (-1)) (.v 5)) (.m (.m (.m (.m (.m (.m (.v 2) (.v 2)) (.v 2)) (.v 2)) (.v 2)) (.v 2)) (.v 2))) (.m (.v 4) (.v 4)))) (.m (.m (.m (.n (-1)) (.m (.v 0) (.v 0))) (.m (.m (.v 2) (.v 2)) (.v 2))) (.m (.m (.v 3) (.v 3)) (.v 3)))) (.m (.m (.m (.n (-1)) (.m (.m (.m (.m (.m (.m (.v 2) (.v 2)) (.v 2)) (.v 2)) (.v 2)) (.v 2)) (.v 2))) (.m (.m (.v 3) (.v 3)) (.v 3))) (.m (.v 4) (.v 4)))) (.m (.m (.m (.n (-3)) (.v 5)) (.m (.m (.m (.m (.m (.m (.v 2) (.v 2)) (.v 2)) (.v 2)) (.v 2)) (.v 2)) (.v 2))) (.m (.v 6) (.v 6)))) (.m (.m (.m (.n (-3)) (.m (.m (.m (.m (.m (.m (.v 2) (.v 2)) (.v 2)) (.v 2)) (.v 2)) (.v 2)) (.v 2))) (.m (.m (.v 3) (.v 3)) (.v 3))) (.m (.v 6) (.v 6)))) (.m (.m (.m (.n 2) (.v 3)) (.m (.m (.m (.m (.m (.m (.v 2) (.v 2)) (.v 2)) (.v 2)) (.v 2)) (.v 2)) (.v 2))) (.m (.m (.v 4) (.v 4)) (.v 4)))) (.m (.m (.m (.n 2) (.v 7)) (.m (.v 0) (.v 0))) (.m (.m (.v 2) (.v 2)) (.v 2)))) (.m (.m (.m (.n 2) (.v 7)) (.m (.m (.m (.m (.m (.m (.v 2) (.v 2)) (.v 2)) (.v 2)) (.v 2)) (.v 2)) (.v 2))) (.m (.v 4) (.v 4)))) (.m (.m (.m (.n 3) (.v 1)) (.m (.m (.m (.v 2) (.v 2)) (.v 2)) (.v 2))) (.m (.v 6) (.v 6)))) (.m (.m (.m (.n 3) (.v 3)) (.m (.m (.m (.m (.m (.m (.v 2) (.v 2)) (.v 2)) (.v 2)) (.v 2)) (.v 2)) (.v 2))) (.m (.m (.v 6) (.v 6)) (.v 6)))) (.m (.m (.m (.v 3) (.v 6)) (.m (.v 0) (.v 0))) (.m (.m (.v 2) (.v 2)) (.v 2)))) (.m (.m (.m (.m (.n (-1)) (.v 0)) (.v 1)) (.v 4)) (.m (.v 2) (.v 2)))) (.m (.m (.m (.m (.n (-1)) (.v 0)) (.v 4)) (.v 5)) (.m (.m (.m (.m (.v 2) (.v 2)) (.v 2)) (.v 2)) (.v 2)))) (.m (.m (.m (.m (.n (-1)) (.v 0)) (.v 4)) (.m (.m (.m (.m (.v 2) (.v 2)) (.v 2)) (.v 2)) (.v 2))) (.m (.m (.v 3) (.v 3)) (.v 3)))) (.m (.m (.m (.m (.n (-5)) (.v 3)) (.v 6)) (.m (.m (.m (.m (.m (.m (.v 2) (.v 2)) (.v 2)) (.v 2)) (.v 2)) (.v 2)) (.v 2))) (.m (.v 4) (.v 4)))) (.m (.m (.m (.m (.n (-3)) (.v 0)) (.v 3)) (.m (.m (.m (.m (.v 2) (.v 2)) (.v 2)) (.v 2)) (.v 2))) (.m (.v 6) (.v 6)))) (.m (.m (.m (.m (.n (-3)) (.v 0)) (.v 6)) (.v 7)) (.m (.m (.m (.m (.v 2) (.v 2)) (.v 2)) (.v 2)) (.v 2)))) (.m (.m (.m (.m (.n (-3)) (.v 4)) (.v 6)) (.v 7)) (.m (.m (.m (.m (.m (.m (.v 2) (.v 2)) (.v 2)) (.v 2)) (.v 2)) (.v 2)) (.v 2)))) (.m (.m (.m (.m (.n 2) (.v 0)) (.v 3)) (.m (.m (.m (.m (.v 2) (.v 2)) (.v 2)) (.v 2)) (.v 2))) (.m (.v 4) (.v 4)))) (.m (.m (.m (.m (.n 2) (.v 0)) (.v 4)) (.v 7)) (.m (.m (.m (.m (.v 2) (.v 2)) (.v 2)) (.v 2)) (.v 2)))) (.m (.m (.m (.m (.n 2) (.v 3)) (.v 4)) (.m (.v 0) (.v 0))) (.m (.m (.v 2) (.v 2)) (.v 2)))) (.m (.m (.m (.m (.n 3) (.v 0)) (.v 6)) (.v 5)) (.m (.m (.m (.m (.v 2) (.v 2)) (.v 2)) (.v 2)) (.v 2)))) (.m (.m (.m (.m (.n 3) (.v 0)) (.v 6)) (.m (.m (.m (.m (.v 2) (.v 2)) (.v 2)) (.v 2)) (.v 2))) (.m (.m (.v 3) (.v 3)) (.v 3)))) (.m (.m (.m (.m (.n 3) (.v 3)) (.v 4)) (.m (.m (.m (.m (.m (.m (.v 2) (.v 2)) (.v 2)) (.v 2)) (.v 2)) (.v 2)) (.v 2))) (.m (.v 6) (.v 6)))) (.m (.m (.m (.m (.n 3) (.v 4)) (.v 6)) (.v 5)) (.m (.m (.m (.m (.m (.m (.v 2) (.v 2)) (.v 2)) (.v 2)) (.v 2)) (.v 2)) (.v 2)))) (.m (.m (.m (.m (.n 3) (.v 4)) (.v 6)) (.m (.m (.m (.m (.m (.m (.v 2) (.v 2)) (.v 2)) (.v 2)) (.v 2)) (.v 2)) (.v 2))) (.m (.m (.v 3) (.v 3)) (.v 3)))) (.m (.m (.m (.m (.m (.n (-5)) (.v 0)) (.v 3)) (.v 4)) (.v 6)) (.m (.m (.m (.m (.v 2) (.v 2)) (.v 2)) (.v 2)) (.v 2)))) (.s (.v 0) (.m (.v 4) (.m (.v 2) (.v 2))))) (.m (.a (.a (.a (.a (.a (.a (.a (.a (.m (.v 1) (.v 1)) (.m (.m (.m (.m (.m (.m (.v 2) (.v 2)) (.v 2)) (.v 2)) (.v 2)) (.v 2)) (.m (.v 5) (.v 5)))) (.m (.m (.n (-1)) (.m (.m (.m (.m (.m (.v 2) (.v 2)) (.v 2)) (.v 2)) (.v 2)) (.v 2))) (.m (.m (.v 4) (.v 4)) (.v 4)))) (.m (.m (.n (-2)) (.m (.m (.m (.m (.m (.v 2) (.v 2)) (.v 2)) (.v 2)) (.v 2)) (.v 2))) (.m (.m (.v 6) (.v 6)) (.v 6)))) (.m (.m (.n 3) (.m (.m (.m (.m (.m (.v 2) (.v 2)) (.v 2)) (.v 2)) (.v 2)) (.v 2))) (.m (.v 7) (.v 7)))) (.m (.m (.v 1) (.v 5)) (.m (.m (.v 2) (.v 2)) (.v 2)))) (.m (.m (.m (.n (-3)) (.v 1)) (.v 7)) (.m (.m (.v 2) (.v 2)) (.v 2)))) (.m (.m (.m (.n (-3)) (.v 5)) (.v 7)) (.m (.m (.m (.m (.m (.v 2) (.v 2)) (.v 2)) (.v 2)) (.v 2)) (.v 2)))) (.m (.m (.m (.n 3) (.v 4)) (.m (.m (.m (.m (.m (.v 2) (.v 2)) (.v 2)) (.v 2)) (.v 2)) (.v 2))) (.m (.v 6) (.v 6)))) (.s (.v 1) (.m (.v 5) (.m (.m (.v 2) (.v 2)) (.v 2)))))) (.m (.a (.a (.a (.a (.a (.a (.a (.a (.a (.a (.a (.a (.m (.m (.m (.m (.m (.m (.m (.m (.m (.v 2) (.v 2)) (.v 2)) (.v 2)) (.v 2)) (.v 2)) (.v 2)) (.v 2)) (.v 2)) (.m (.v 5) (.v 5))) (.m (.m (.m (.m (.m (.m (.m (.m (.m (.v 2) (.v 2)) (.v 2)) (.v 2)) (.v 2)) (.v 2)) (.v 2)) (.v 2)) (.v 2)) (.m (.v 7) (.v 7)))) (.m (.m (.n (-1)) (.m (.m (.m (.m (.m (.m (.m (.m (.v 2) (.v 2)) (.v 2)) (.v 2)) (.v 2)) (.v 2)) (.v 2)) (.v 2)) (.v 2))) (.m (.m (.v 6) (.v 6)) (.v 6)))) (.m (.m (.n (-2)) (.m (.m (.m (.m (.m (.m (.m (.m (.v 2) (.v 2)) (.v 2)) (.v 2)) (.v 2)) (.v 2)) (.v 2)) (.v 2)) (.v 2))) (.m (.m (.v 4) (.v 4)) (.v 4)))) (.m (.m (.m (.m (.m (.m (.m (.m (.m (.m (.v 2) (.v 2)) (.v 2)) (.v 2)) (.v 2)) (.v 2)) (.v 2)) (.v 2)) (.v 2)) (.m (.v 3) (.v 3))) (.m (.v 4) (.v 4)))) (.m (.m (.m (.m (.m (.m (.m (.m (.m (.m (.v 2) (.v 2)) (.v 2)) (.v 2)) (.v 2)) (.v 2)) (.v 2)) (.v 2)) (.v 2)) (.m (.v 3) (.v 3))) (.m (.v 6) (.v 6)))) (.m (.m (.m (.n (-2)) (.v 5)) (.v 7)) (.m (.m (.m (.m (.m (.m (.m (.m (.v 2) (.v 2)) (.v 2)) (.v 2)) (.v 2)) (.v 2)) (.v 2)) (.v 2)) (.v 2)))) (.m (.m (.m (.n 3) (.v 6)) (.m (.m (.m (.m (.m (.m (.m (.m (.v 2) (.v 2)) (.v 2)) (.v 2)) (.v 2)) (.v 2)) (.v 2)) (.v 2)) (.v 2))) (.m (.v 4) (.v 4)))) (.m (.m (.m (.v 3) (.v 4)) (.v 5)) (.m (.m (.m (.m (.m (.m (.m (.m (.v 2) (.v 2)) (.v 2)) (.v 2)) (.v 2)) (.v 2)) (.v 2)) (.v 2)) (.v 2)))) (.m (.m (.m (.v 3) (.v 6)) (.v 7)) (.m (.m (.m (.m (.m (.m (.m (.m (.v 2) (.v 2)) (.v 2)) (.v 2)) (.v 2)) (.v 2)) (.v 2)) (.v 2)) (.v 2)))) (.m (.m (.m (.m (.n (-1)) (.v 3)) (.v 4)) (.v 7)) (.m (.m (.m (.m (.m (.m (.m (.m (.v 2) (.v 2)) (.v 2)) (.v 2)) (.v 2)) (.v 2)) (.v 2)) (.v 2)) (.v 2)))) (.m (.m (.m (.m (.n (-1)) (.v 3)) (.v 6)) (.v 5)) (.m (.m (.m (.m (.m (.m (.m (.m (.v 2) (.v 2)) (.v 2)) (.v 2)) (.v 2)) (.v 2)) (.v 2)) (.v 2)) (.v 2)))) (.m (.m (.m (.m (.n (-2)) (.v 4)) (.v 6)) (.m (.m (.m (.m (.m (.m (.m (.m (.v 2) (.v 2)) (.v 2)) (.v 2)) (.v 2)) (.v 2)) (.v 2)) (.v 2)) (.v 2))) (.m (.v 3) (.v 3)))) (.s (.s (.v 5) (.v 7)) (.m (.v 3) (.s (.v 4) (.v 6))))))) rfl rfl (by decide +kernel)
  rw [e]
  exact (F.za (F.za (F.zm' _ kx) (F.zm' _ ky)) (F.zm' _ c3))
theorem pl_h {X Z x x2 : α} (kx : F.Z (F.sub X (F.mul x (F.mul Z Z)))) (hh : F.Z (F.sub (F.mul x2 (F.mul Z Z)) X)) : F.Z (F.mul (F.sub x2 x) (F.mul Z Z)) := by
  have e : (F.mul (F.sub x2 x) (F.mul Z Z)) = (F.add (F.mul (F.int 1) (F.sub X (F.mul x (F.mul Z Z)))) (F.mul (F.int 1) (F.sub (F.mul x2 (F.mul Z Z)) X))) := F.eq_of (fun k_ => match k_ with | 0 => X | 1 => X | 2 => Z | 3 => X | 4 => x | 5 => X | 6 => x2 | 7 => X | _ => X) (e := (.m (.s (.v 6) (.v 4)) (.m (.v 2) (.v 2)))) (f := (.a (.m (.n 1) (.s (.v 0) (.m (.v 4) (.m (.v 2) (.v 2))))) (.m (.n 1) (.s (.m (.v 6) (.m (.v 2) (.v 2))) (.v 0))))) rfl rfl (by decide +kernel)
  rw [e]
  exact (F.za (F.zm' _ kx) (F.zm' _ hh))
theorem pl_hb {X Z x x2 : α} (kx : F.Z (F.sub X (F.mul x (F.mul Z Z)))) (hx : F.Z (F.sub x x2)) : F.Z (F.sub (F.mul x2 (F.mul Z Z)) X) := by
  have e : (F.sub (F.mul x2 (F.mul Z Z)) X) = (F.add (F.mul (F.int (-1)) (F.sub X (F.mul x (F.mul Z Z)))) (F.mul (F.mul (F.int (-1)) (F.mul Z Z)) (F.sub x x2))) := F.eq_of (fun k_ => match k_ with | 0 => X | 1 => X | 2 => Z | 3 => X | 4 => x | 5 => X | 6 => x2 | 7 => X | _ => X) (e := (.s (.m (.v 6) (.m (.v 2) (.v 2))) (.v 0))) (f := (.a (.m (.n (-1)) (.s (.v 0) (.m (.v 4) (.m (.v 2) (.v 2))))) (.m (.m (.n (-1)) (.m (.v 2) (.v 2))) (.s (.v 4) (.v 6))))) rfl rfl (by decide +kernel)
  rw [e]
  exact (F.za (F.zm' _ kx) (F.zm' _ hx))
theorem pl_r {Y Z y y2 : α} (ky : F.Z (F.sub Y (F.mul y (F.mul (F.mul Z Z) Z)))) (hr : F.Z (F.sub (F.mul y2 (F.mul (F.mul Z Z) Z)) Y)) : F.Z (F.mul (F.sub y2 y) (F.mul (F.mul Z Z) Z)) := by
  have e : (F.mul (F.sub y2 y) (F.mul (F.mul Z Z) Z)) = (F.add (F.mul (F.int 1) (F.sub Y (F.mul y (F.mul (F.mul Z Z) Z)))) (F.mul (F.int 1) (F.sub (F.mul y2 (F.mul (F.mul Z Z) Z)) Y))) := F.eq_of (fun k_ => match k_ with | 0 => Y | 1 => Y | 2 => Z | 3 => Y | 4 => Y | 5 => y | 6 => Y | 7 => y2 | _ => Y) (e := (.m (.s (.v 7) (.v 5)) (.m (.m (.v 2) (.v 2)) (.v 2)))) (f := (.a (.m (.n 1) (.s (.v 1) (.m (.v 5) (.m (.m (.v 2) (.v 2)) (.v 2))))) (.m (.n 1) (.s (.m (.v 7) (.m (.m (.v 2) (.v 2)) (.v 2))) (.v 1))))) rfl rfl (by decide +kernel)
  rw [e]
  exact (F.za (F.zm' _ ky) (F.zm' _ hr))
theorem pl_rb {Y Z y y2 : α} (ky : F.Z (F.sub Y (F.mul y (F.mul (F.mul Z Z) Z)))) (hy : F.Z (F.sub y y2)) : F.Z (F.sub (F.mul y2 (F.mul (F.mul Z Z) Z)) Y) := by
  have e : (F.sub (F.mul y2 (F.mul (F.mul Z Z) Z)) Y) = (F.add (F.mul (F.int (-1)) (F.sub Y (F.mul y (F.mul (F.mul Z Z) Z)))) (F.mul (F.mul (F.int (-1)) (F.mul (F.mul Z Z) Z)) (F.sub y y2))) := F.eq_of (fun k_ => match k_ with | 0 => Y | 1 => Y | 2 => Z | 3 => Y | 4 => Y | 5 => y | 6 => Y | 7 => y2 | _ => Y) (e := (.s (.m (.v 7) (.m (.m (.v 2) (.v 2)) (.v 2))) (.v 1))) (f := (.a (.m (.n (-1)) (.s (.v 1) (.m (.v 5) (.m (.m (.v 2) (.v 2)) (.v 2))))) (.m (.m (.n (-1)) (.m (.m (.v 2) (.v 2)) (.v 2))) (.s (.v 5) (.v 7))))) rfl rfl (by decide +kernel)
  rw [e]
  exact (F.za (F.zm' _ ky) (F.zm' _ hy))
theorem jx {X Z x i : α} (kx : F.Z (F.sub X (F.mul x (F.mul Z Z)))) (hi : F.Z (F.add (F.mul Z i) (F.int (-1)))) : F.Z (F.sub (F.mul X (F.mul i i)) x) := by
  have e : (F.sub (F.mul X (F.mul i i)) x) = (F.add (F.mul (F.mul i i) (F.sub X (F.mul x (F.mul Z Z)))) (F.mul (F.mul x (F.add (F.mul Z i) (F.int 1))) (F.add (F.mul Z i) (F.int (-1))))) := F.eq_of (fun k_ => match k_ with | 0 => X | 1 => X | 2 => Z | 3 => X | 4 => x | 5 => X | 6 => X | 7 => X | _ => i) (e := (.s (.m (.v 0) (.m (.v 8) (.v 8))) (.v 4))) (f := (.a (.m (.m (.v 8) (.v 8)) (.s (.v 0) (.m (.v 4) (.m (.v 2) (.v 2))))) (.m (.m (.v 4) (.a (.m (.v 2) (.v 8)) (.n 1))) (.a (.m (.v 2) (.v 8)) (.n (-1)))))) rfl rfl (by decide +kernel)
  rw [e]
  exact (F.za (F.zm' _ kx) (F.zm' _ hi))
theorem jy {Y Z y i : α} (ky : F.Z (F.sub Y (F.mul y (F.mul (F.mul Z Z) Z)))) (hi : F.Z (F.add (F.mul Z i) (F.int (-1)))) : F.Z (F.sub (F.mul Y (F.mul (F.mul i i) i)) y) := by
  have e : (F.sub (F.mul Y (F.mul (F.mul i i) i)) y) = (F.add (F.mul (F.mul (F.mul i i) i) (F.sub Y (F.mul y (F.mul (F.mul Z Z) Z)))) (F.mul (F.mul y (F.add (F.add (F.mul (F.mul Z Z) (F.mul i i)) (F.mul Z i)) (F.int 1))) (F.add (F.mul Z i) (F.int (-1))))) := F.eq_of (fun k_ => match k_ with | 0 => Y | 1 => Y | 2 => Z | 3 => Y | 4 => Y | 5 => y | 6 => Y | 7 => Y | _ => i) (e := (.s (.m (.v 1) (.m (.m (.v 8) (.v 8)) (.v 8))) (.v 5))) (f := (.a (.m (.m (.m (.v 8) (.v 8)) (.v 8)) (.s (.v 1) (.m (.v 5) (.m (.m (.v 2) (.v 2)) (.v 2))))) (.m (.m (.v 5) (.a (.a (.m (.m (.v 2) (.v 2)) (.m (.v 8) (.v 8))) (.m (.v 2) (.v 8))) (.n 1))) (.a (.m (.v 2) (.v 8)) (.n (-1)))))) rfl rfl (by decide +kernel)
  rw [e]
  exact (F.za (F.zm' _ ky) (F.zm' _ hi))
/-- What a fraction is. -/
def Rep (X Y Z : α) : Pt α → Prop
  | none => F.Z Z
  | some (x, y) => ¬ F.Z Z ∧ F.eq X (F.mul x (F.mul Z Z)) ∧ F.eq Y (F.mul y (F.mul (F.mul Z Z) Z))
theorem rep_eq {X Y Z : α} {A B : Pt α} (e : EqP F A B) (h : Rep F X Y Z A) : Rep F X Y Z B := by
  rcases A with _ | ⟨x, y⟩ <;> rcases B with _ | ⟨x', y'⟩
  · exact h
  · exact e.elim
  · exact e.elim
  · exact ⟨h.1, F.trans h.2.1 (F.mul_eq e.1 (F.refl _)), F.trans h.2.2 (F.mul_eq e.2 (F.refl _))⟩
theorem two_ne : ¬ F.Z (F.int 2) := nz_int F (by decide +kernel)
theorem sq_ne {a b : α} (h : ¬ F.Z a) (k : ¬ F.Z b) : ¬ F.Z (F.mul a b) := fun z => (F.zd z).elim h k
theorem rep_twice {b X Y Z : α} {A C : Pt α} (a : OnP F b A) (h : Rep F X Y Z A) (hs : Sum F A A C) : Rep F (twX F X Y) (twY F X Y) (twZ F Y Z) C := by
  rcases A with _ | ⟨x, y⟩
  · have e := sum_nl F hs
    rcases C with _ | ⟨x', y'⟩
    · exact F.zm' _ (F.zm' _ h)
    · exact e.elim
  · obtain ⟨hz, kx, ky⟩ := h
    cases hs with
    | op ho => exact tw_o F ky ho.2
    | @sl _ _ _ _ l x3 y3 ho hl h3 k3 =>
      have hy : ¬ F.Z (F.add y y) := fun k => ho ⟨F.refl x, k⟩
      have hY : ¬ F.Z Y := fun k => by
        have h1 := (F.zd (tw_n F ky k)).resolve_right (sq_ne F (sq_ne F hz hz) hz)
        exact hy (F.za h1 h1)
      have hZ : ¬ F.Z (twZ F Y Z) := sq_ne F (two_ne F) (sq_ne F hY hz)
      have ex : F.eq (twX F X Y) (F.mul (Xs F l x x) (F.mul (twZ F Y Z) (twZ F Y Z))) := tw_x F kx ky hl.cc
      have ey : F.eq (twY F X Y) (F.mul (Ys F l x y (Xs F l x x)) (F.mul (F.mul (twZ F Y Z) (twZ F Y Z)) (twZ F Y Z))) := tw_y F kx ky hl.cc
      refine ⟨hZ, F.trans ex (F.mul_eq (F.symm h3) (F.refl _)), F.trans ey (F.mul_eq (F.symm (F.trans k3 ?_)) (F.refl _))⟩
      exact Ys_eq F (F.refl _) (F.refl _) (F.refl _) h3
theorem rep_one (x y : α) : Rep F x y (F.int 1) (some (x, y)) := by
  refine ⟨nz_int F (by decide +kernel), ?_, ?_⟩
  · have e : F.mul x (F.mul (F.int 1) (F.int 1)) = x := F.eq_of (fun _ => x) (e := .m (.v 0) (.m (.n 1) (.n 1))) (f := .v 0) rfl rfl (by decide)
    rw [e]
    exact F.refl _
  · have e : F.mul y (F.mul (F.mul (F.int 1) (F.int 1)) (F.int 1)) = y := F.eq_of (fun _ => y) (e := .m (.v 0) (.m (.m (.n 1) (.n 1)) (.n 1))) (f := .v 0) rfl rfl (by decide)
    rw [e]
    exact F.refl _
theorem rep_plus_h {b X Y Z x2 y2 : α} {A C : Pt α} (a : OnP F b A) (q : On F b x2 y2) (hz : ¬ F.Z Z) (h : Rep F X Y Z A) (hs : Sum F A (some (x2, y2)) C) (hh : ¬ F.Z (plH F X Z x2)) :
    Rep F (plX F X Y Z x2 y2) (plY F X Y Z x2 y2) (plZ F X Z x2) C := by
  rcases A with _ | ⟨x, y⟩
  · exact absurd h hz
  obtain ⟨_, kx, ky⟩ := h
  cases hs with
  | op ho => exact absurd (pl_hb F kx ho.1) hh
  | @sl _ _ _ _ l x3 y3 ho hl h3 k3 =>
    have ex : F.eq (plX F X Y Z x2 y2) (F.mul (Xs F l x x2) (F.mul (plZ F X Z x2) (plZ F X Z x2))) := pl_x F kx ky hl.c3
    have ey : F.eq (plY F X Y Z x2 y2) (F.mul (Ys F l x y (Xs F l x x2)) (F.mul (F.mul (plZ F X Z x2) (plZ F X Z x2)) (plZ F X Z x2))) := pl_y F kx ky hl.c3
    refine ⟨sq_ne F hz hh, F.trans ex (F.mul_eq (F.symm h3) (F.refl _)), F.trans ey (F.mul_eq (F.symm (F.trans k3 ?_)) (F.refl _))⟩
    exact Ys_eq F (F.refl _) (F.refl _) (F.refl _) h3
theorem rep_plus_t {b X Y Z x2 y2 : α} {A C : Pt α} (a : OnP F b A) (hz : ¬ F.Z Z) (h : Rep F X Y Z A) (hs : Sum F A (some (x2, y2)) C) (hh : F.Z (plH F X Z x2)) (hr : F.Z (plR F Y Z y2)) :
    Rep F (twX F X Y) (twY F X Y) (twZ F Y Z) C := by
  rcases A with _ | ⟨x, y⟩
  · exact absurd h hz
  obtain ⟨_, kx, ky⟩ := h
  have h1 := (F.zd (pl_h F kx hh)).resolve_right (sq_ne F hz hz)
  have h2 := (F.zd (pl_r F ky hr)).resolve_right (sq_ne F (sq_ne F hz hz) hz)
  exact rep_twice F a ⟨hz, kx, ky⟩ (sum_eq F (eqP_refl F _) (B := some (x2, y2)) (B' := some (x, y)) ⟨h1, h2⟩ (eqP_refl F _) hs)
theorem rep_plus_o {b X Y Z x2 y2 : α} {A C : Pt α} (a : OnP F b A) (q : On F b x2 y2) (hz : ¬ F.Z Z) (h : Rep F X Y Z A) (hs : Sum F A (some (x2, y2)) C) (hh : F.Z (plH F X Z x2)) (hr : ¬ F.Z (plR F Y Z y2)) (u v w : α) (hw : F.Z w) :
    Rep F u v w C := by
  rcases A with _ | ⟨x, y⟩
  · exact absurd h hz
  obtain ⟨_, kx, ky⟩ := h
  have h1 := (F.zd (pl_h F kx hh)).resolve_right (sq_ne F hz hz)
  have hx : F.Z (F.sub x x2) := F.symm h1
  have hy := (F.zd (slope_y F a q hx)).resolve_left (fun k => hr (pl_rb F ky k))
  have hC := sum_un F hs (.op ⟨hx, hy⟩)
  rcases C with _ | ⟨x', y'⟩
  · exact hw
  · exact hC.elim
theorem rep_x {X Y Z x y : α} (h : Rep F X Y Z (some (x, y))) : F.eq (F.mul X (F.mul (F.inv Z) (F.inv Z))) x ∧ F.eq (F.mul Y (F.mul (F.mul (F.inv Z) (F.inv Z)) (F.inv Z))) y :=
  ⟨jx F h.2.1 (F.zi h.1), jy F h.2.2 (F.zi h.1)⟩
end
end Go.Proofs.YtgdimcnokagddaaDoor.Ec

/-
  Own text. Points as fractions: a sum with a point, whatever the points; doubles and sums of multiples. In any field. Speaks of no program.
-/
namespace Go.Proofs.YtgdimcnokagddaaDoor.Ec
set_option linter.unusedVariables false
set_option linter.unusedSectionVars false
set_option maxRecDepth 100000
open Go Go.Proofs.YtgdimcnokagddaaDoor.Ring
section
variable {α : Type} (F : Fd α)
theorem rep_congr {X Y Z X' Y' Z' : α} {A : Pt α} (hX : F.eq X X') (hY : F.eq Y Y') (hZ : F.eq Z Z') (h : Rep F X Y Z A) : Rep F X' Y' Z' A := by
  rcases A with _ | ⟨x, y⟩
  · exact F.Z_of hZ h
  · have h2 := F.mul_eq hZ hZ
    exact ⟨fun k => h.1 (F.Z_of (F.symm hZ) k), F.trans (F.symm hX) (F.trans h.2.1 (F.mul_eq (F.refl _) h2)), F.trans (F.symm hY) (F.trans h.2.2 (F.mul_eq (F.refl _) (F.mul_eq h2 hZ)))⟩
section
variable [DecidablePred F.Z]
/-- A fraction and a point. -/
def pl3 (X Y Z x2 y2 : α) : α × α × α :=
  if F.Z Z then (x2, y2, F.int 1)
  else if F.Z (plH F X Z x2) then (if F.Z (plR F Y Z y2) then (twX F X Y, twY F X Y, twZ F Y Z) else (F.int 0, F.int 0, F.int 0))
  else (plX F X Y Z x2 y2, plY F X Y Z x2 y2, plZ F X Z x2)
theorem rep_plus {b X Y Z x2 y2 : α} {A C : Pt α} (a : OnP F b A) (q : On F b x2 y2) (h : Rep F X Y Z A) (hs : Sum F A (some (x2, y2)) C) : Rep F (pl3 F X Y Z x2 y2).1 (pl3 F X Y Z x2 y2).2.1 (pl3 F X Y Z x2 y2).2.2 C := by
  unfold pl3
  by_cases hz : F.Z Z
  · rw [if_pos hz]
    rcases A with _ | ⟨x, y⟩
    · exact rep_eq F (sum_nl F hs) (rep_one F x2 y2)
    · exact absurd hz h.1
  · rw [if_neg hz]
    by_cases hh : F.Z (plH F X Z x2)
    · rw [if_pos hh]
      by_cases hr : F.Z (plR F Y Z y2)
      · rw [if_pos hr]
        exact rep_plus_t F a hz h hs hh hr
      · rw [if_neg hr]
        exact rep_plus_o F a q hz h hs hh hr _ _ _ F.z0
    · rw [if_neg hh]
      exact rep_plus_h F a q hz h hs hh
/-- One bit more. -/
theorem step_two {b X Y Z : α} (hb : ¬ F.Z b) {m : Nat} {A C : Pt α} (a : OnP F b A) (hm : Mult F m A C) (h : Rep F X Y Z C) : ∃ D, Mult F (m + m) A D ∧ Rep F (twX F X Y) (twY F X Y) (twZ F Y Z) D := by
  have c := mult_on F a hm
  obtain ⟨D, hD, _⟩ := sum_ex F c c
  exact ⟨D, mult_add F hb a hm hm hD, rep_twice F c h hD⟩
theorem step_one {b X Y Z x2 y2 : α} {m : Nat} {A C : Pt α} (a : OnP F b A) (q : EqP F (some (x2, y2)) A) (hm : Mult F m A C) (h : Rep F X Y Z C) :
    ∃ D, Mult F (m + 1) A D ∧ Rep F (pl3 F X Y Z x2 y2).1 (pl3 F X Y Z x2 y2).2.1 (pl3 F X Y Z x2 y2).2.2 D := by
  have c := mult_on F a hm
  obtain ⟨D, hD, _⟩ := sum_ex F c a
  exact ⟨D, ⟨C, hm, hD⟩, rep_plus F c (onP_eq F (eqP_symm F q) a) h (sum_eq F (eqP_refl F _) (eqP_symm F q) (eqP_refl F _) hD)⟩
/-- What a fraction is, written out. -/
def normP (X Y Z : α) : Pt α := if F.Z Z then none else some (F.mul X (F.mul (F.inv Z) (F.inv Z)), F.mul Y (F.mul (F.mul (F.inv Z) (F.inv Z)) (F.inv Z)))
theorem norm_rep {X Y Z : α} {C : Pt α} (h : Rep F X Y Z C) : EqP F (normP F X Y Z) C := by
  unfold normP
  rcases C with _ | ⟨x, y⟩
  · rw [if_pos (show F.Z Z from h)]
    trivial
  · rw [if_neg h.1]
    exact rep_x F h
end
end
end Go.Proofs.YtgdimcnokagddaaDoor.Ec

