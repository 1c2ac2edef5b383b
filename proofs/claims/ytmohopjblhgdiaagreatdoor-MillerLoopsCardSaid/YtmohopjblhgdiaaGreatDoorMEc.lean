/-
  Own text. Identities in any commutative ring, by normal forms that the kernel reckons. Speaks of no program.
-/
import Derived.Test.YtmohopjblhgdiaaGreatDoorMReg
import Derived.Test.YtmohopjblhgdiaaGreatDoorMFp2M
namespace Go.Proofs.YtmohopjblhgdiaaGreatDoor.Ring
set_option linter.unusedVariables false

/-- A commutative ring, with its whole numbers. -/
structure Rg (α : Type) where
  add : α → α → α
  mul : α → α → α
  int : Int → α
  add_comm : ∀ a b, add a b = add b a
  add_assoc : ∀ a b c, add (add a b) c = add a (add b c)
  mul_comm : ∀ a b, mul a b = mul b a
  mul_assoc : ∀ a b c, mul (mul a b) c = mul a (mul b c)
  dist : ∀ a b c, mul a (add b c) = add (mul a b) (mul a c)
  int_add : ∀ a b, int (a + b) = add (int a) (int b)
  int_mul : ∀ a b, int (a * b) = mul (int a) (int b)
  add_zero : ∀ a, add a (int 0) = a
  mul_one : ∀ a, mul a (int 1) = a
  mul_zero : ∀ a, mul a (int 0) = int 0
/-- What is written with sums, differences, products, whole numbers and letters. -/
inductive Ex where
  | v (i : Nat)
  | n (z : Int)
  | a (p q : Ex)
  | s (p q : Ex)
  | m (p q : Ex)
  | g (p : Ex)
section
variable {α : Type} (R : Rg α) (en : Nat → α)
def pwr (x : α) : Nat → α
  | 0 => R.int 1
  | k + 1 => R.mul (pwr x k) x
def Ex.val : Ex → α
  | .v i => en i
  | .n z => R.int z
  | .a p q => R.add (p.val) (q.val)
  | .s p q => R.add (p.val) (R.mul (R.int (-1)) (q.val))
  | .m p q => R.mul (p.val) (q.val)
  | .g p => R.mul (R.int (-1)) (p.val)
/-- A product of letters: how often each, from letter i on. -/
abbrev Mo := List Nat
def Mo.val : Nat → Mo → α
  | _, [] => R.int 1
  | i, e :: m => R.mul (pwr R (en i) e) (Mo.val (i + 1) m)
def Mo.mul : Mo → Mo → Mo
  | [], m => m
  | e :: l, [] => e :: l
  | e :: l, f :: m => (e + f) :: Mo.mul l m
/-- A sum of such, each so many times. -/
abbrev Po := List (Mo × Int)
def Po.val : Po → α
  | [] => R.int 0
  | (m, c) :: p => R.add (R.mul (R.int c) (Mo.val R en 0 m)) (Po.val p)
end
/-- 0: one product; 1: the first is less; 2: greater. -/
def Mo.cmp : Mo → Mo → Nat
  | [], [] => 0
  | [], _ :: _ => 1
  | _ :: _, [] => 2
  | e :: l, f :: m => match Nat.beq e f with
    | true => Mo.cmp l m
    | false => match Nat.ble e f with
      | true => 1
      | false => 2
def isz : Int → Bool
  | .ofNat 0 => true
  | _ => false
/-- Two sums merged. -/
def Po.add : Nat → Po → Po → Po
  | 0, p, q => p ++ q
  | _ + 1, [], q => q
  | _ + 1, x :: p, [] => x :: p
  | n + 1, (m, c) :: p, (k, d) :: q => match Mo.cmp m k with
    | 0 => match isz (c + d) with
      | true => Po.add n p q
      | false => (m, c + d) :: Po.add n p q
    | 1 => (m, c) :: Po.add n p ((k, d) :: q)
    | _ => (k, d) :: Po.add n ((m, c) :: p) q
def Po.one (m : Mo) (c : Int) : Po → Po
  | [] => []
  | (k, d) :: p => (Mo.mul m k, c * d) :: Po.one m c p
def Po.mul : Po → Po → Po
  | [], _ => []
  | (m, c) :: p, q => Po.add 100000 (Po.one m c q) (Po.mul p q)
def Ex.norm : Ex → Po
  | .v i => [(List.replicate i 0 ++ [1], 1)]
  | .n z => if z = 0 then [] else [([], z)]
  | .a p q => Po.add 100000 p.norm q.norm
  | .s p q => Po.add 100000 p.norm (Po.one [] (-1) q.norm)
  | .m p q => Po.mul p.norm q.norm
  | .g p => Po.one [] (-1) p.norm
section
variable {α : Type} (R : Rg α) (en : Nat → α)
theorem one_mul (a : α) : R.mul (R.int 1) a = a := by rw [R.mul_comm, R.mul_one]
theorem zero_add (a : α) : R.add (R.int 0) a = a := by rw [R.add_comm, R.add_zero]
theorem zero_mul (a : α) : R.mul (R.int 0) a = R.int 0 := by rw [R.mul_comm, R.mul_zero]
theorem dist' (a b c : α) : R.mul (R.add a b) c = R.add (R.mul a c) (R.mul b c) := by rw [R.mul_comm, R.dist, R.mul_comm c a, R.mul_comm c b]
theorem pow_add (x : α) (j : Nat) : ∀ k, pwr R x (j + k) = R.mul (pwr R x j) (pwr R x k)
  | 0 => (R.mul_one _).symm
  | k + 1 => by rw [← Nat.add_assoc, pwr, pwr, pow_add x j k, R.mul_assoc]
theorem mswap (a b c d : α) : R.mul (R.mul a b) (R.mul c d) = R.mul (R.mul a c) (R.mul b d) := by rw [R.mul_assoc, ← R.mul_assoc b, R.mul_comm b c, R.mul_assoc c, ← R.mul_assoc]
theorem aswap (a b c : α) : R.add a (R.add b c) = R.add b (R.add a c) := by rw [← R.add_assoc, R.add_comm a b, R.add_assoc]
theorem mo_mul : ∀ (i : Nat) (l m : Mo), Mo.val R en i (Mo.mul l m) = R.mul (Mo.val R en i l) (Mo.val R en i m)
  | i, [], m => by rw [Mo.mul, Mo.val, one_mul]
  | i, e :: l, [] => by rw [Mo.mul, show Mo.val R en i [] = R.int 1 from rfl, R.mul_one]
  | i, e :: l, f :: m => by rw [Mo.mul, Mo.val, Mo.val, Mo.val, pow_add, mo_mul (i + 1) l m, mswap]
theorem cmp_eq : ∀ l m : Mo, Mo.cmp l m = 0 → l = m
  | [], [], _ => rfl
  | e :: l, f :: m, h => by
    unfold Mo.cmp at h
    split at h
    · next hb => rw [Nat.eq_of_beq_eq_true hb, cmp_eq l m h]
    · split at h <;> cases h
theorem isz_eq {z : Int} (h : isz z = true) : z = 0 := by
  unfold isz at h
  split at h
  · rfl
  · cases h
theorem po_app : ∀ p q : Po, Po.val R en (p ++ q) = R.add (Po.val R en p) (Po.val R en q)
  | [], q => by rw [List.nil_append, Po.val, zero_add]
  | (m, c) :: p, q => by rw [List.cons_append, Po.val, po_app p q, Po.val, R.add_assoc]
theorem po_add : ∀ (n : Nat) (p q : Po), Po.val R en (Po.add n p q) = R.add (Po.val R en p) (Po.val R en q)
  | 0, p, q => po_app R en p q
  | n + 1, [], q => by rw [Po.add, Po.val, zero_add]
  | n + 1, x :: p, [] => by rw [Po.add, show Po.val R en [] = R.int 0 from rfl, R.add_zero]
  | n + 1, (m, c) :: p, (k, d) :: q => by
    unfold Po.add
    split
    · next h =>
      have hk := cmp_eq _ _ h
      subst hk
      have e : R.add (Po.val R en ((m, c) :: p)) (Po.val R en ((m, d) :: q)) = R.add (R.mul (R.int (c + d)) (Mo.val R en 0 m)) (R.add (Po.val R en p) (Po.val R en q)) := by
        rw [Po.val, Po.val, R.int_add, dist', R.add_assoc, R.add_assoc, aswap R (Po.val R en p)]
      rw [e]
      split
      · next h0 => rw [isz_eq h0, zero_mul, zero_add, po_add n p q]
      · rw [Po.val, po_add n p q]
    · rw [Po.val, po_add n p ((k, d) :: q), ← R.add_assoc]
      rfl
    · rw [Po.val, po_add n ((m, c) :: p) q, aswap]
      rfl
theorem po_one (m : Mo) (c : Int) : ∀ p : Po, Po.val R en (Po.one m c p) = R.mul (R.mul (R.int c) (Mo.val R en 0 m)) (Po.val R en p)
  | [] => by rw [Po.one, Po.val, R.mul_zero]
  | (k, d) :: p => by rw [Po.one, Po.val, po_one m c p, Po.val, R.dist, mo_mul, R.int_mul, mswap]
theorem po_mul : ∀ p q : Po, Po.val R en (Po.mul p q) = R.mul (Po.val R en p) (Po.val R en q)
  | [], q => by rw [Po.mul, Po.val, zero_mul]
  | (m, c) :: p, q => by rw [Po.mul, po_add, po_one, po_mul p q, Po.val, dist']
theorem mo_var : ∀ (j i : Nat), Mo.val R en j (List.replicate i 0 ++ [1]) = en (j + i)
  | j, 0 => by
    show R.mul (R.mul (R.int 1) (en j)) (R.int 1) = _
    rw [R.mul_one, one_mul]
    rfl
  | j, i + 1 => by
    show R.mul (R.int 1) (Mo.val R en (j + 1) (List.replicate i 0 ++ [1])) = _
    rw [one_mul, mo_var (j + 1) i]
    congr 1
    omega
theorem norm_val : ∀ e : Ex, Po.val R en e.norm = e.val R en
  | .v i => by
    show R.add (R.mul (R.int 1) (Mo.val R en 0 (List.replicate i 0 ++ [1]))) (R.int 0) = en i
    rw [R.add_zero, one_mul, mo_var, Nat.zero_add]
  | .n z => by
    unfold Ex.norm
    split
    · next h => rw [h]; rfl
    · show R.add (R.mul (R.int z) (R.int 1)) (R.int 0) = _
      rw [R.add_zero, R.mul_one]
      rfl
  | .a p q => by rw [Ex.norm, po_add, norm_val p, norm_val q]; rfl
  | .s p q => by
    rw [Ex.norm, po_add, po_one, norm_val p, norm_val q]
    show R.add _ (R.mul (R.mul (R.int (-1)) (R.int 1)) _) = R.add _ _
    rw [R.mul_one]
  | .m p q => by rw [Ex.norm, po_mul, norm_val p, norm_val q]; rfl
  | .g p => by
    rw [Ex.norm, po_one, norm_val p]
    show R.mul (R.mul (R.int (-1)) (R.int 1)) _ = _
    rw [R.mul_one]
    rfl
/-- What has one normal form is the same in every ring. -/
theorem same {e f : Ex} (h : e.norm = f.norm) : e.val R en = f.val R en := by rw [← norm_val, ← norm_val, h]
end
end Go.Proofs.YtmohopjblhgdiaaGreatDoor.Ring

/-
  Own text. Fields whose numbers are written in more than one way (modulo p): whole numbers, and numbers with u. Speaks of no program.
-/
namespace Go.Proofs.YtmohopjblhgdiaaGreatDoor.Ec
set_option linter.unusedVariables false
open Go Go.Proofs.YtmohopjblhgdiaaGreatDoor.Ring Go.Proofs.YtmohopjblhgdiaaGreatDoor.Fp Go.Proofs.YtmohopjblhgdiaaGreatDoor.Fp2
/-- A commutative ring, which of its numbers are 0, and inverses of the others. -/
structure Fd (α : Type) extends Rg α where
  Z : α → Prop
  z0 : Z (int 0)
  za : ∀ {a b}, Z a → Z b → Z (add a b)
  zm : ∀ {a} (b), Z a → Z (mul a b)
  zd : ∀ {a b}, Z (mul a b) → Z a ∨ Z b
  inv : α → α
  zi : ∀ {a}, ¬ Z a → Z (add (mul a (inv a)) (int (-1)))
  ze : ∀ {n : Int}, Z (int n) ↔ n % PP = 0
def RI : Rg Int where
  add := (· + ·)
  mul := (· * ·)
  int := id
  add_comm := Int.add_comm
  add_assoc := Int.add_assoc
  mul_comm := Int.mul_comm
  mul_assoc := Int.mul_assoc
  dist := Int.mul_add
  int_add := fun _ _ => rfl
  int_mul := fun _ _ => rfl
  add_zero := Int.add_zero
  mul_one := Int.mul_one
  mul_zero := Int.mul_zero
/-- The numbers modulo p. -/
def FI : Fd Int where
  toRg := RI
  Z := fun a => a % PP = 0
  z0 := rfl
  za := fun {a b} h h' => by
    show (a + b) % PP = 0
    rw [Int.add_emod, h, h']; rfl
  zm := fun {a} b h => by
    show a * b % PP = 0
    rw [Int.mul_emod, h, Int.zero_mul]; rfl
  zd := fun h => PP_split h
  inv := fun a => pw a (PP - 2)
  zi := fun {a} h => by
    show (a * pw a (PP - 2) + -1) % PP = 0
    rw [Int.add_emod, pw_inverse h]
    decide +kernel
  ze := Iff.rfl
def RG : Rg G where
  add := ga
  mul := gm
  int := fun z => (z, 0)
  add_comm := ga_comm
  add_assoc := ga_assoc
  mul_comm := gm_comm
  mul_assoc := gm_assoc
  dist := gm_ga
  int_add := fun a b => by apply Prod.ext <;> simp [ga]
  int_mul := fun a b => by apply Prod.ext <;> simp [gm]
  add_zero := ga_zero
  mul_one := gm_one
  mul_zero := fun a => by apply Prod.ext <;> simp [gm]
/-- The numbers with u modulo p. -/
def FG : Fd G where
  toRg := RG
  Z := Z2
  z0 := ⟨rfl, rfl⟩
  za := fun {a b} h h' => ⟨by show (a.1 + b.1) % PP = 0; rw [Int.add_emod, h.1, h'.1]; rfl, by show (a.2 + b.2) % PP = 0; rw [Int.add_emod, h.2, h'.2]; rfl⟩
  zm := fun {a} b h => gm_zl h
  zd := fun {a b} h => by
    by_cases ha : Z2 a
    · exact .inl ha
    · exact .inr (gm_zero h ha)
  inv := gi
  zi := fun {a} h => by
    have h1 := gm_gi h
    refine ⟨?_, ?_⟩
    · show ((gm a (gi a)).1 + -1) % PP = 0
      rw [Int.add_emod, h1.1]
      decide +kernel
    · show ((gm a (gi a)).2 + 0) % PP = 0
      rw [Int.add_zero, h1.2]
      decide +kernel
  ze := fun {n} => ⟨fun h => h.1, fun h => ⟨h, rfl⟩⟩
section
variable {α : Type} (F : Fd α)
/-- The same number. -/
def Fd.eq (a b : α) : Prop := F.Z (F.add a (F.mul (F.int (-1)) b))
theorem Fd.eq_of {a b : α} (en : Nat → α) {e f : Ex} (he : e.val F.toRg en = a) (hf : f.val F.toRg en = b) (h : e.norm = f.norm) : a = b := by rw [← he, ← hf]; exact same F.toRg en h
theorem Fd.Z_by (en : Nat → α) {e f : Ex} (h : e.norm = f.norm) (k : F.Z (f.val F.toRg en)) : F.Z (e.val F.toRg en) := by rw [same F.toRg en h]; exact k
theorem Fd.refl (a : α) : F.eq a a := by
  have h : F.add a (F.mul (F.int (-1)) a) = F.int 0 := F.eq_of (fun _ => a) (e := .s (.v 0) (.v 0)) (f := .n 0) rfl rfl (by decide)
  rw [Fd.eq, h]
  exact F.z0
theorem Fd.zm' {a : α} (b : α) (h : F.Z a) : F.Z (F.mul b a) := by rw [F.mul_comm]; exact F.zm b h
theorem Fd.symm {a b : α} (h : F.eq a b) : F.eq b a := by
  have e : F.add b (F.mul (F.int (-1)) a) = F.mul (F.int (-1)) (F.add a (F.mul (F.int (-1)) b)) := F.eq_of (fun i => match i with | 0 => a | _ => b) (e := .s (.v 1) (.v 0)) (f := .m (.n (-1)) (.s (.v 0) (.v 1))) rfl rfl (by decide)
  rw [Fd.eq, e]
  exact F.zm' _ h
theorem Fd.trans {a b c : α} (h : F.eq a b) (h' : F.eq b c) : F.eq a c := by
  have e : F.add a (F.mul (F.int (-1)) c) = F.add (F.add a (F.mul (F.int (-1)) b)) (F.add b (F.mul (F.int (-1)) c)) := F.eq_of (fun i => match i with | 0 => a | 1 => b | _ => c) (e := .s (.v 0) (.v 2)) (f := .a (.s (.v 0) (.v 1)) (.s (.v 1) (.v 2))) rfl rfl (by decide)
  rw [Fd.eq, e]
  exact F.za h h'
theorem Fd.add_eq {a b c d : α} (h : F.eq a b) (h' : F.eq c d) : F.eq (F.add a c) (F.add b d) := by
  have e : F.add (F.add a c) (F.mul (F.int (-1)) (F.add b d)) = F.add (F.add a (F.mul (F.int (-1)) b)) (F.add c (F.mul (F.int (-1)) d)) := F.eq_of (fun i => match i with | 0 => a | 1 => b | 2 => c | _ => d) (e := .s (.a (.v 0) (.v 2)) (.a (.v 1) (.v 3))) (f := .a (.s (.v 0) (.v 1)) (.s (.v 2) (.v 3))) rfl rfl (by decide)
  rw [Fd.eq, e]
  exact F.za h h'
theorem Fd.mul_eq {a b c d : α} (h : F.eq a b) (h' : F.eq c d) : F.eq (F.mul a c) (F.mul b d) := by
  have e : F.add (F.mul a c) (F.mul (F.int (-1)) (F.mul b d)) = F.add (F.mul (F.add a (F.mul (F.int (-1)) b)) c) (F.mul b (F.add c (F.mul (F.int (-1)) d))) := F.eq_of (fun i => match i with | 0 => a | 1 => b | 2 => c | _ => d) (e := .s (.m (.v 0) (.v 2)) (.m (.v 1) (.v 3))) (f := .a (.m (.s (.v 0) (.v 1)) (.v 2)) (.m (.v 1) (.s (.v 2) (.v 3)))) rfl rfl (by decide)
  rw [Fd.eq, e]
  exact F.za (F.zm _ h) (F.zm' _ h')
/-- To divide by what is not 0. -/
theorem Fd.cancel {a b c : α} (hc : ¬ F.Z c) (h : F.eq (F.mul a c) (F.mul b c)) : F.eq a b := by
  have e : F.add (F.mul a c) (F.mul (F.int (-1)) (F.mul b c)) = F.mul (F.add a (F.mul (F.int (-1)) b)) c := F.eq_of (fun i => match i with | 0 => a | 1 => b | _ => c) (e := .s (.m (.v 0) (.v 2)) (.m (.v 1) (.v 2))) (f := .m (.s (.v 0) (.v 1)) (.v 2)) rfl rfl (by decide)
  rw [Fd.eq, e] at h
  rcases F.zd h with h1 | h1
  · exact h1
  · exact absurd h1 hc
end
end Go.Proofs.YtmohopjblhgdiaaGreatDoor.Ec

/-
  Own text. Sums of points on y y = x x x + b: the identities by which they hang on no brackets, chords (c) and tangents (t). Speaks of no program.
-/
namespace Go.Proofs.YtmohopjblhgdiaaGreatDoor.Ec
open Go.Proofs.YtmohopjblhgdiaaGreatDoor.Ring
set_option maxRecDepth 100000
/-- A sum of products of six letters: how often each is told by the digits. -/
def pws : Nat → Nat → Ex → Ex
  | _, 0, a => a
  | i, e + 1, a => pws i e (.m a (.v i))
def tm (d : Nat) (c : Int) : Ex := pws 5 (d % 10) (pws 4 (d / 10 % 10) (pws 3 (d / 100 % 10) (pws 2 (d / 1000 % 10) (pws 1 (d / 10000 % 10) (pws 0 (d / 100000 % 10) (.n c))))))
def ofP : List (Nat × Int) → Ex
  | [] => .n 0
  | (d, c) :: r => .a (tm d c) (ofP r)
def C1 : Ex := (.s (.a (.m (.m (.n 2) (.v 4)) (.v 3)) (.m (.m (.v 4) (.v 4)) (.s (.v 0) (.v 2)))) (.a (.a (.m (.v 0) (.v 0)) (.m (.v 0) (.v 2))) (.m (.v 2) (.v 2))))
def C2 : Ex := (.s (.a (.m (.m (.n 2) (.v 5)) (.v 3)) (.m (.m (.v 5) (.v 5)) (.s (.v 1) (.v 2)))) (.a (.a (.m (.v 1) (.v 1)) (.m (.v 1) (.v 2))) (.m (.v 2) (.v 2))))
def Y1 : Ex := (.a (.v 3) (.m (.v 4) (.s (.v 0) (.v 2))))
def Y3 : Ex := (.a (.v 3) (.m (.v 5) (.s (.v 1) (.v 2))))
def X4 : Ex := (.s (.s (.m (.v 4) (.v 4)) (.v 0)) (.v 2))
def Y4 : Ex := (.g (.a (.v 3) (.m (.v 4) (.s X4 (.v 2)))))
def X5 : Ex := (.s (.s (.m (.v 5) (.v 5)) (.v 2)) (.v 1))
def Y5 : Ex := (.g (.a (.v 3) (.m (.v 5) (.s X5 (.v 2)))))
def Nc : Ex := (.s Y3 Y4)
def Dc : Ex := (.s (.v 1) X4)
def Nt : Ex := (.a (.a (.m (.v 1) (.v 1)) (.m (.v 1) X4)) (.m X4 X4))
def Dt : Ex := (.a Y3 Y4)
def Mc : Ex := (.s Y5 Y1)
def Fc : Ex := (.s X5 (.v 0))
def Mt : Ex := (.a (.a (.m X5 X5) (.m X5 (.v 0))) (.m (.v 0) (.v 0)))
def Ft : Ex := (.a Y5 Y1)
def Pv : Ex := (ofP [(20, -1), (1000, 2), (100000, 1)])
def Qv : Ex := (ofP [(1000, -1), (10000, 1)])
def Wv : Ex := (.s (.m Nc Dt) (.m Nt Dc))
end Go.Proofs.YtmohopjblhgdiaaGreatDoor.Ec

/-
  Own text. Sums of points on y y = x x x + b: the identities by which they hang on no brackets, chords (c) and tangents (t). Speaks of no program.
-/
namespace Go.Proofs.YtmohopjblhgdiaaGreatDoor.Ec
open Go.Proofs.YtmohopjblhgdiaaGreatDoor.Ring
set_option maxRecDepth 100000
def Pxcc : Ex := (ofP [(33, -2), (103, 4), (112, -2), (130, -2), (1004, -2), (1013, 4), (1022, -1), (1031, 4), (1040, 1), (1101, -4), (1110, 4), (2002, 1), (2011, -6), (2020, -1), (3000, 2), (10004, 2), (10022, -2), (10031, 2), (10101, -8), (10110, 4), (11002, 2), (11011, -6), (11020, 2), (12000, 4), (20002, -6), (20020, 2), (21000, 4), (30000, 4), (100013, 2), (100022, -3), (100040, -1), (100110, 4), (101002, 5), (101011, -6), (101020, 3), (102000, -4), (110002, 4), (110020, 6), (111000, -10), (120000, -4), (200002, 3), (200020, 3), (201000, -6), (210000, -6), (300000, -2)])
def Qxcc : Ex := (ofP [(33, 2), (103, 2), (112, -4), (121, 2), (1004, -1), (1013, -4), (1022, 3), (1031, -4), (1101, -4), (1110, 4), (2002, 3), (2011, 6), (2020, -3), (3000, -2), (10004, 1), (10022, 3), (10031, -2), (10101, -4), (10110, 8), (11002, -3), (11011, 6), (11020, -9), (20002, -3), (20020, -3), (21000, 6), (30000, 2), (100013, -2), (100101, -4), (101011, 6), (110002, -6), (111000, 6), (120000, 6)])
def Wxcc : Ex := (.s (.s (.m (.m (.m Nc Nc) Fc) Fc) (.m (.m (.m Mc Mc) Dc) Dc)) (.m (.m (.m (.m (.s (.s (.a X4 (.v 1)) (.v 0)) X5) Dc) Dc) Fc) Fc))
theorem id_xcc : Wxcc.norm = (Ex.a (.m Pxcc C1) (.m Qxcc C2)).norm := by decide +kernel
end Go.Proofs.YtmohopjblhgdiaaGreatDoor.Ec

/-
  Own text. Sums of points on y y = x x x + b: the identities by which they hang on no brackets, chords (c) and tangents (t). Speaks of no program.
-/
namespace Go.Proofs.YtmohopjblhgdiaaGreatDoor.Ec
open Go.Proofs.YtmohopjblhgdiaaGreatDoor.Ring
set_option maxRecDepth 100000
def Pxct : Ex := (ofP [(35, -2), (114, 6), (132, -2), (1024, -1), (1033, 8), (1042, -1), (1112, -12), (1121, 4), (2004, 1), (2013, -8), (2022, 1), (2031, -6), (2040, 2), (2110, 2), (3011, 16), (3020, -5), (4000, -3), (10015, 4), (10024, -2), (10033, 2), (10112, -4), (10121, -4), (11004, 2), (11013, -16), (11022, 8), (11031, -6), (12002, -2), (12011, 24), (13000, -6), (20013, -8), (21011, 16), (22000, -6), (30011, 4), (30020, 2), (31000, -2), (100015, 2), (100024, -3), (100033, -4), (100042, 1), (100112, 4), (101004, 5), (101013, -4), (101022, 5), (101031, 6), (101040, -4), (101110, -4), (102002, -10), (102020, 3), (103000, 3), (110004, 4), (110013, 2), (110022, 4), (110031, 6), (111002, -14), (111011, -8), (112000, 6), (120002, -6), (120011, -4), (121000, 6), (130000, 2), (200004, 3), (200013, 4), (200022, -3), (200040, 2), (200110, 2), (201002, -4), (201011, -8), (201020, 3), (210002, -2), (210011, -4), (300002, 2), (300020, -3), (301000, -1), (400000, 1)])
def Qxct : Ex := (ofP [(35, 2), (44, 2), (105, 2), (123, -6), (141, 2), (1006, -1), (1015, -4), (1024, -3), (1033, -4), (1042, -3), (1103, -8), (1112, 4), (1121, 12), (1130, -4), (2004, 5), (2013, 16), (2022, 3), (2031, -2), (2040, 1), (2101, 8), (2110, -8), (3002, -8), (3011, -16), (3020, 6), (4000, 4), (10006, 1), (10024, -1), (10033, -2), (10042, -3), (10103, -4), (10121, 4), (10130, 4), (11004, -1), (11013, 8), (11022, 9), (11031, 2), (11040, 1), (11101, 8), (11110, -4), (12002, -6), (12011, -16), (12020, -8), (13000, 8), (20004, -1), (20022, 3), (20040, 1), (20101, 2), (21002, -3), (21011, -4), (21020, -8), (22000, 9), (30002, -1), (30020, -2), (31000, 5), (40000, 1), (100015, -2), (100024, -2), (100112, -4), (100121, -4), (101013, 8), (101022, 6), (101031, 2), (101110, 8), (102011, -8), (102020, -4), (110013, -2), (110031, -2), (110110, 4), (111011, 4), (111020, -4), (120011, 4), (120020, 2)])
def Wxct : Ex := (.s (.s (.m (.m (.m Nc Nc) Ft) Ft) (.m (.m (.m Mt Mt) Dc) Dc)) (.m (.m (.m (.m (.s (.s (.a X4 (.v 1)) (.v 0)) X5) Dc) Dc) Ft) Ft))
theorem id_xct : Wxct.norm = (Ex.a (.m Pxct C1) (.m Qxct C2)).norm := by decide +kernel
end Go.Proofs.YtmohopjblhgdiaaGreatDoor.Ec

/-
  Own text. Sums of points on y y = x x x + b: the identities by which they hang on no brackets, chords (c) and tangents (t). Speaks of no program.
-/
namespace Go.Proofs.YtmohopjblhgdiaaGreatDoor.Ec
open Go.Proofs.YtmohopjblhgdiaaGreatDoor.Ring
set_option maxRecDepth 100000
def Pxtc : Ex := (ofP [(44, -2), (53, -2), (114, -2), (123, 4), (132, -2), (150, -2), (1024, 1), (1033, 8), (1042, 3), (1051, 4), (1060, 1), (1112, 12), (1121, -8), (1130, 8), (2004, 1), (2013, -10), (2022, -3), (2031, -12), (2040, -5), (2110, -8), (3011, 4), (3020, 10), (10024, 2), (10033, -4), (10042, 2), (10051, 2), (10112, -4), (10121, -4), (11004, -2), (11013, 14), (11022, -6), (11031, -4), (12002, -2), (12020, 6), (20013, -4), (20022, -6), (20031, 4), (21002, 6), (21011, -8), (21020, 6), (30011, 4), (30020, 4), (31000, -4), (100024, 3), (100033, 2), (100042, 1), (100060, -1), (100112, 4), (100130, 4), (101004, -3), (101013, -6), (101022, -9), (101031, -8), (101040, 1), (101110, -8), (102002, 8), (102011, 12), (102020, 6), (103000, -6), (110004, 2), (110013, 6), (110031, 2), (111002, -2), (111011, -8), (120011, -4), (130000, -2), (200004, -1), (200022, -3), (200040, 1), (200110, -2), (201002, 8), (201011, 4), (201020, 3), (202000, -9), (210002, -2), (210011, -4), (300002, 2), (300020, 1), (301000, -5), (400000, -1)])
def Qxtc : Ex := (ofP [(53, 2), (123, 2), (132, -4), (141, 2), (1024, 1), (1033, -8), (1042, 3), (1051, -4), (1121, -12), (1130, 4), (2004, -2), (2013, 6), (2022, -1), (2031, 16), (2040, -3), (2101, -2), (2110, 8), (3002, 3), (3011, -4), (3020, -6), (4000, -1), (10024, -1), (10033, 4), (10042, 3), (10051, -2), (10121, 4), (10130, 8), (11004, 4), (11013, -6), (11022, -5), (11040, -9), (11101, 4), (11110, -8), (12002, -3), (12011, -4), (12020, 10), (13000, 1), (20004, -2), (20022, 3), (20031, -4), (20040, -3), (20101, -2), (21002, -3), (21011, 8), (21020, 4), (30002, 3), (30020, -2), (31000, 1), (40000, -1), (100033, -2), (100121, -4), (101013, 6), (101022, -2), (101031, 4), (101110, 4), (102011, -8), (102020, 2), (110013, -6), (110022, -4), (110031, 2), (110110, -4), (111011, 4), (111020, 8), (120011, 4), (120020, 2)])
def Wxtc : Ex := (.s (.s (.m (.m (.m Nt Nt) Fc) Fc) (.m (.m (.m Mc Mc) Dt) Dt)) (.m (.m (.m (.m (.s (.s (.a X4 (.v 1)) (.v 0)) X5) Dt) Dt) Fc) Fc))
theorem id_xtc : Wxtc.norm = (Ex.a (.m Pxtc C1) (.m Qxtc C2)).norm := by decide +kernel
end Go.Proofs.YtmohopjblhgdiaaGreatDoor.Ec

/-
  Own text. Sums of points on y y = x x x + b: the identities by which they hang on no brackets, chords (c) and tangents (t). Speaks of no program.
-/
namespace Go.Proofs.YtmohopjblhgdiaaGreatDoor.Ec
open Go.Proofs.YtmohopjblhgdiaaGreatDoor.Ring
set_option maxRecDepth 100000
def Pxtt : Ex := (ofP [(46, -2), (55, -2), (116, -2), (134, 6), (152, -2), (1026, 3), (1035, 4), (1044, 7), (1053, 4), (1062, -1), (1114, 8), (1123, -4), (1132, -4), (1141, 4), (2006, 1), (2015, -6), (2024, -11), (2033, -14), (2042, -5), (2051, 2), (2112, -6), (3013, 10), (3022, 13), (3031, 2), (3040, -2), (4002, -3), (10044, 2), (10053, 2), (10114, 4), (10132, -12), (10141, -4), (11006, -2), (11015, 6), (11024, -2), (11033, -6), (11042, -2), (11051, -2), (11112, -12), (11121, 12), (12004, -2), (12022, 2), (12031, 22), (13002, 6), (13011, -6), (13020, -6), (20024, -2), (20033, -6), (20042, -2), (21004, 8), (21013, -12), (21022, 8), (21031, 12), (22002, -6), (22011, 6), (22020, -6), (30022, 2), (30031, 6), (30040, 2), (31002, -6), (31011, 6), (31020, -6), (100026, 3), (100035, 2), (100044, -3), (100062, 1), (100123, 4), (100132, 4), (101006, -3), (101015, -6), (101024, -9), (101033, -2), (101042, 3), (101051, -2), (101121, -12), (102004, 14), (102013, 6), (102022, 7), (102031, -4), (103002, -15), (103011, 6), (103020, 6), (110006, 2), (110015, 6), (110042, 6), (110051, 2), (111004, -6), (111022, -8), (111031, -8), (112020, 6), (120004, -2), (120013, -6), (120022, -2), (121002, 6), (121011, -6), (121020, 6), (200006, -1), (200024, 3), (200033, -2), (200042, -3), (201004, 4), (201031, 8), (202002, -3), (202011, -6), (210004, 2), (210022, -6), (210031, -2), (211002, -6), (211011, 6), (300013, 2), (300022, 2), (301011, -6)])
def Qxtt : Ex := (ofP [(55, 2), (64, 2), (125, 2), (143, -6), (161, 2), (1026, 1), (1035, -4), (1044, -7), (1053, -4), (1062, -3), (1123, -8), (1132, 4), (1141, 4), (1150, -4), (2015, -2), (2024, 3), (2033, 20), (2042, 11), (2060, 1), (2121, 6), (3013, 4), (3022, -13), (3031, -16), (3040, 2), (4020, 3), (10026, -1), (10044, 3), (10053, -2), (10062, -3), (10123, -4), (10141, 12), (10150, 4), (11015, 2), (11024, -3), (11033, 2), (11042, 7), (11060, 1), (11121, 12), (11130, -12), (12013, 4), (12022, -3), (12031, -18), (12040, -10), (13011, -12), (13020, 21), (20024, 3), (20033, 2), (20042, -3), (20060, 1), (21013, -8), (21040, -4), (22011, 6), (22020, 3), (30022, -2), (30031, -2), (31011, 6), (100035, -2), (100044, -2), (100132, -4), (100141, -4), (101015, 2), (101024, 6), (101033, 6), (101042, 4), (101130, 12), (102013, -10), (102022, -6), (102040, -2), (103011, 12), (103020, -12), (110015, -2), (110024, -6), (110042, 2), (111013, 8), (111040, -2), (112011, -6), (112020, 6), (120013, 2), (120022, 6), (120040, -2), (121011, -6), (121020, 6)])
def Wxtt : Ex := (.s (.s (.m (.m (.m Nt Nt) Ft) Ft) (.m (.m (.m Mt Mt) Dt) Dt)) (.m (.m (.m (.m (.s (.s (.a X4 (.v 1)) (.v 0)) X5) Dt) Dt) Ft) Ft))
theorem id_xtt : Wxtt.norm = (Ex.a (.m Pxtt C1) (.m Qxtt C2)).norm := by decide +kernel
end Go.Proofs.YtmohopjblhgdiaaGreatDoor.Ec

/-
  Own text. Sums of points on y y = x x x + b: the identities by which they hang on no brackets, chords (c) and tangents (t). Speaks of no program.
-/
namespace Go.Proofs.YtmohopjblhgdiaaGreatDoor.Ec
open Go.Proofs.YtmohopjblhgdiaaGreatDoor.Ring
set_option maxRecDepth 100000
def Zcc : Ex := (.s (.m Nc Nc) (.m (.m (.a X4 (.v 1)) Dc) Dc))
def Pycc : Ex := (ofP [(52, -2), (113, -4), (122, -2), (140, 4), (210, 4), (1014, 2), (1023, 1), (1032, 5), (1041, -3), (1050, 1), (1102, 4), (1120, -6), (2003, -2), (2012, -2), (2021, 4), (2030, -2), (3010, -2), (10014, -2), (10023, -1), (10032, 3), (10041, 3), (10050, 3), (10111, 12), (10120, 2), (11003, 2), (11012, -6), (11021, -6), (11030, -8), (11100, -2), (12001, 2), (12010, -2), (20012, 6), (20021, 2), (21001, -2), (21010, -6), (30010, -4), (100032, 4), (100050, 2), (100102, 2), (100120, -2), (101003, -1), (101012, -5), (101021, 1), (101030, -9), (101100, -4), (102001, 4), (102010, 8), (110003, 1), (110012, -3), (110021, -1), (110030, -7), (110100, -4), (111010, 10), (120001, -4), (200012, -2), (200030, -4), (200100, -2), (201001, 2), (201010, 8), (210001, -2), (210010, 4), (300010, 2)])
def Qycc : Ex := (ofP [(52, 2), (122, 6), (131, -4), (201, -4), (1023, -1), (1032, -5), (1041, 3), (1050, -3), (1102, 2), (1111, 8), (1120, -8), (2012, -4), (2021, -2), (2030, 8), (3010, 2), (10023, 1), (10032, -5), (10041, -3), (10050, -3), (10102, -6), (10120, -10), (11003, 2), (11012, 10), (11021, 4), (11030, 14), (11100, 4), (12001, -4), (12010, -4), (20003, -2), (20021, -2), (20030, 2), (20100, 2), (21001, 2), (21010, -4), (30001, 2), (100032, -2), (100102, -2), (100111, 4), (101003, 1), (101012, 1), (101021, -3), (101030, 3), (101100, 2), (102001, -2), (102010, -2), (110003, -1), (110012, 5), (110021, 3), (110030, 3), (110100, 4), (111001, -2), (111010, -8), (120001, 4), (120010, -2)])
def Wycc : Ex := (.s (.s (.m (.m Nc (.s (.m (.m (.v 1) Dc) Dc) Zcc)) Fc) (.m (.m (.m (.m Y3 Dc) Dc) Dc) Fc)) (.s (.m (.m Mc (.s (.m (.m (.v 0) Dc) Dc) Zcc)) Dc) (.m (.m (.m (.m Y1 Dc) Dc) Dc) Fc)))
theorem id_ycc : Wycc.norm = (Ex.a (.m Pycc C1) (.m Qycc C2)).norm := by decide +kernel
end Go.Proofs.YtmohopjblhgdiaaGreatDoor.Ec

/-
  Own text. Sums of points on y y = x x x + b: the identities by which they hang on no brackets, chords (c) and tangents (t). Speaks of no program.
-/
namespace Go.Proofs.YtmohopjblhgdiaaGreatDoor.Ec
open Go.Proofs.YtmohopjblhgdiaaGreatDoor.Ring
set_option maxRecDepth 100000
def Zct : Ex := (.s (.m Nc Nc) (.m (.m (.a X4 (.v 1)) Dc) Dc))
def Pyct : Ex := (ofP [(53, 2), (114, 4), (123, 2), (132, -4), (202, -4), (1015, -2), (1024, -1), (1033, -3), (1042, 1), (1051, -3), (1060, 2), (1112, -2), (1130, 6), (1200, 4), (2004, 1), (2013, 2), (2022, -1), (2031, 6), (2040, -8), (2101, 4), (2110, -12), (3002, -3), (3011, 4), (3020, 6), (4000, -1), (10015, 2), (10024, 1), (10033, -5), (10042, -1), (10051, -3), (10103, -4), (10112, -2), (10121, -6), (11013, 2), (11022, 5), (11031, 16), (11040, -4), (11101, 8), (11110, -4), (12002, -1), (12011, -10), (12020, 6), (20004, -1), (20013, -2), (20022, -4), (20031, 2), (20040, -2), (20110, -2), (21002, 4), (21020, 6), (22000, -1), (30020, 2), (31000, 1), (40000, 1), (100033, -4), (100060, -2), (100103, -2), (100112, 4), (100130, -6), (100200, -4), (101004, 1), (101013, 3), (101031, 11), (101040, 2), (101101, 8), (101110, 4), (102002, -5), (102011, -14), (102020, 3), (103000, 1), (110004, -1), (110013, 5), (110031, 1), (110040, 2), (110101, -2), (110110, 2), (111002, 3), (111011, -10), (111020, 3), (112000, -1), (120002, 2), (121000, -1), (130000, 1), (200013, 2), (200040, 4), (200110, 6), (201002, -1), (201011, -8), (201020, -3), (202000, -1), (210002, 1), (210011, 2), (210020, -3), (211000, -1), (220000, 2), (300020, -2), (301000, -1), (310000, 1)])
def Qyct : Ex := (ofP [(53, -2), (123, -6), (132, 4), (141, 4), (202, 4), (211, 4), (1024, 1), (1033, 5), (1042, -3), (1051, 1), (1060, -1), (1103, -2), (1112, -10), (1121, 4), (1130, -12), (1200, -8), (2013, 4), (2022, 3), (2031, -6), (2040, 8), (2101, 4), (2110, 16), (3011, -8), (3020, -4), (10024, -1), (10033, 5), (10042, 3), (10051, 5), (10060, 1), (10103, 6), (10112, 2), (10121, 6), (10200, -4), (11004, -2), (11013, -10), (11022, -6), (11031, -20), (11040, -2), (11101, -10), (11110, 12), (12002, 6), (12011, 16), (12020, -3), (13000, -4), (20004, 2), (20022, 3), (20031, -4), (20101, -6), (20110, 2), (21002, -3), (21011, 10), (21020, -3), (30002, -3), (30020, -2), (31000, 3), (40000, 1), (100033, 2), (100103, 2), (100112, -4), (100121, -4), (101004, -1), (101013, -1), (101022, 3), (101031, -1), (101040, 1), (101101, -4), (101110, 10), (102002, 3), (102011, 2), (102020, -6), (103000, -2), (110004, 1), (110013, -5), (110022, -3), (110031, -5), (110040, -1), (110101, -2), (110110, 2), (111011, 14), (112000, -3), (120002, -3), (120011, 2), (121000, 3), (130000, 2)])
def Wyct : Ex := (.s (.s (.m (.m Nc (.s (.m (.m (.v 1) Dc) Dc) Zct)) Ft) (.m (.m (.m (.m Y3 Dc) Dc) Dc) Ft)) (.s (.m (.m Mt (.s (.m (.m (.v 0) Dc) Dc) Zct)) Dc) (.m (.m (.m (.m Y1 Dc) Dc) Dc) Ft)))
theorem id_yct : Wyct.norm = (Ex.a (.m Pyct C1) (.m Qyct C2)).norm := by decide +kernel
end Go.Proofs.YtmohopjblhgdiaaGreatDoor.Ec

/-
  Own text. Sums of points on y y = x x x + b: the identities by which they hang on no brackets, chords (c) and tangents (t). Speaks of no program.
-/
namespace Go.Proofs.YtmohopjblhgdiaaGreatDoor.Ec
open Go.Proofs.YtmohopjblhgdiaaGreatDoor.Ring
set_option maxRecDepth 100000
def Ztc : Ex := (.s (.m Nt Nt) (.m (.m (.a X4 (.v 1)) Dt) Dt))
def Pytc : Ex := (ofP [(73, -2), (143, -6), (152, 4), (222, 4), (1053, 4), (1062, -1), (1071, 1), (1080, 1), (1114, -2), (1123, 4), (1132, -18), (1141, 4), (1211, -4), (2024, 2), (2033, 5), (2042, 7), (2051, -2), (2060, -4), (2112, 10), (2121, 6), (3013, -3), (3022, -14), (3031, 2), (3040, 2), (3101, -4), (3110, 2), (4002, 2), (4011, 3), (4020, -3), (10053, 3), (10062, 3), (10071, 5), (10080, 1), (10114, 2), (10132, 12), (10141, 14), (10211, 4), (11024, -1), (11033, -18), (11042, -10), (11051, -23), (11060, -4), (11112, -16), (11121, -28), (12004, -1), (12013, 12), (12022, 19), (12031, 35), (12040, -3), (12101, 12), (13002, -5), (13011, -16), (13020, 3), (20024, -1), (20033, 6), (20042, 11), (20051, 4), (20060, 3), (20112, 8), (20121, 10), (21004, 1), (21013, -9), (21022, -20), (21031, -13), (21040, -21), (21101, -14), (22002, 10), (22011, 10), (22020, 18), (23000, -3), (30013, 2), (30022, 7), (30031, -3), (30040, -5), (30101, 6), (30110, -2), (31002, -9), (31011, -1), (31020, 1), (32000, 2), (40002, 3), (40011, -2), (40020, -5), (41000, 2), (50000, -3), (100053, 5), (100062, -2), (100080, -2), (100123, 2), (100132, -6), (101024, 3), (101033, -7), (101042, 11), (101051, -3), (101060, 9), (101112, 8), (101121, 4), (102004, -2), (102022, -22), (102031, 4), (102040, -18), (102101, -6), (103002, 9), (103011, 1), (103020, 18), (104000, -6), (110024, -3), (110033, -3), (110042, -9), (110051, -12), (110060, -5), (110112, -6), (110121, -10), (111004, 3), (111013, 6), (111022, 23), (111031, 34), (111040, 18), (111101, 10), (112002, -14), (112011, -23), (112020, -21), (113000, 12), (120004, -1), (120013, -3), (120022, -10), (120031, -8), (120040, -9), (120101, -4), (121002, 10), (121011, 13), (121020, 27), (122000, -15), (130002, -3), (130020, 1), (131000, 3), (140000, 1), (200033, -4), (200042, 5), (200060, 7), (200112, 2), (201004, -1), (201013, 3), (201022, -15), (201031, 3), (201040, -27), (201101, -2), (202002, 10), (202011, -2), (202020, 36), (203000, -15), (210004, 1), (210022, 9), (210031, 9), (210040, 9), (210101, 2), (211002, -11), (211011, -11), (211020, -24), (212000, 18), (220002, 4), (220011, 4), (220020, 9), (221000, -12), (230000, 1), (300013, 1), (300022, -4), (300040, -9), (301002, 5), (301011, -1), (301020, 23), (302000, -14), (310002, -3), (310011, -2), (310020, -7), (311000, 10), (320000, -3), (400002, 1), (400020, 5), (401000, -6), (410000, 2), (500000, -1)])
def Qytc : Ex := (ofP [(82, 2), (152, 6), (161, -4), (231, -4), (1053, 3), (1062, -9), (1071, 3), (1080, -3), (1123, 2), (1132, -6), (1141, 20), (1150, -4), (1220, 4), (2024, 1), (2033, -6), (2042, 4), (2051, -16), (2060, 13), (2121, -6), (2130, -10), (3013, -1), (3022, 2), (3031, 11), (3040, -5), (3110, 2), (4002, 1), (4011, -2), (4020, 3), (5000, -1), (10053, -3), (10062, -1), (10071, -3), (10080, -3), (10123, -2), (10132, 2), (10141, -12), (10150, -14), (10220, -4), (11024, -2), (11033, 6), (11042, 2), (11051, 20), (11060, 16), (11121, 12), (11130, 28), (12013, 2), (12031, -25), (12040, -14), (12110, -10), (13002, -4), (13011, 9), (13020, -3), (14000, 3), (20024, 1), (20051, -4), (20060, -5), (20121, -6), (20130, -12), (21013, -1), (21022, -3), (21031, 17), (21040, 19), (21110, 14), (22002, 6), (22011, -12), (22020, -12), (23000, -2), (30022, 1), (30031, -3), (30040, -6), (30110, -6), (31002, -4), (31011, 5), (31020, 15), (32000, -2), (40002, 1), (40020, -3), (41000, 3), (50000, -1), (100062, -2), (100132, -2), (100141, 4), (101033, -3), (101042, 5), (101051, -3), (101060, 3), (101121, -6), (101130, -2), (102013, 1), (102031, 10), (102040, -7), (102110, 4), (103011, -1), (104000, -1), (110033, 3), (110042, 1), (110051, 3), (110060, 3), (110121, 6), (110130, 8), (111013, -2), (111031, -14), (111040, -10), (111110, -8), (112011, 6), (112020, 3), (113000, 1), (120013, 1), (120031, 4), (120040, 5), (120110, 4), (121011, -9), (121020, -9), (122000, 3), (130011, 4), (130020, 6), (131000, -5), (140000, 2)])
def Wytc : Ex := (.s (.s (.m (.m Nt (.s (.m (.m (.v 1) Dt) Dt) Ztc)) Fc) (.m (.m (.m (.m Y3 Dt) Dt) Dt) Fc)) (.s (.m (.m Mc (.s (.m (.m (.v 0) Dt) Dt) Ztc)) Dt) (.m (.m (.m (.m Y1 Dt) Dt) Dt) Fc)))
theorem id_ytc : Wytc.norm = (Ex.a (.m Pytc C1) (.m Qytc C2)).norm := by decide +kernel
end Go.Proofs.YtmohopjblhgdiaaGreatDoor.Ec

/-
  Own text. Sums of points on y y = x x x + b: the identities by which they hang on no brackets, chords (c) and tangents (t). Speaks of no program.
-/
namespace Go.Proofs.YtmohopjblhgdiaaGreatDoor.Ec
open Go.Proofs.YtmohopjblhgdiaaGreatDoor.Ring
set_option maxRecDepth 100000
def Ztt : Ex := (.s (.m Nt Nt) (.m (.m (.a X4 (.v 1)) Dt) Dt))
def Pytt : Ex := (ofP [(74, 2), (144, 6), (153, -4), (162, -4), (223, -4), (232, -4), (1054, -4), (1063, 3), (1072, -3), (1081, 1), (1115, 2), (1124, -4), (1133, 14), (1142, 6), (1151, 16), (1221, 12), (2025, -2), (2034, -2), (2043, -15), (2052, 3), (2061, -1), (2113, -8), (2122, 4), (2131, -42), (3014, 2), (3023, 12), (3032, 14), (3050, -8), (3111, 12), (3120, -6), (4012, -10), (4021, -7), (4030, 22), (5001, 3), (5010, -6), (10054, -3), (10063, -5), (10072, -5), (10081, -1), (10115, -2), (10133, -8), (10142, -18), (10151, -4), (11025, 1), (11034, 12), (11043, 20), (11052, 31), (11061, 8), (11113, 10), (11122, 20), (11131, 26), (12005, 1), (12014, -9), (12023, -11), (12032, -67), (12041, -5), (12050, -6), (12111, -24), (12120, -6), (13003, -4), (13012, 39), (13030, 10), (14001, -6), (14010, 6), (20025, 1), (20034, -3), (20043, -13), (20052, -6), (20061, -1), (20113, -4), (20122, -8), (20131, -2), (21005, -1), (21014, 6), (21023, 13), (21032, 27), (21041, 22), (21050, -6), (21111, 18), (21120, -6), (22003, 4), (22012, -31), (22021, -28), (22030, 12), (23001, 9), (23010, -3), (30014, -1), (30023, -6), (30032, -2), (30041, 7), (30050, 2), (31003, -1), (31012, 9), (31021, 7), (31030, -10), (32001, -6), (32010, 3), (40012, 1), (40021, 4), (40030, 2), (41001, 3), (41010, -9), (100054, -5), (100063, 2), (100072, 2), (100124, -2), (100133, 6), (100142, 6), (101025, -3), (101034, 7), (101043, -11), (101052, -1), (101061, -9), (101113, -6), (101122, -4), (101131, -20), (102005, 2), (102023, 20), (102032, 1), (102041, 26), (102111, 18), (103003, -8), (103012, -5), (103021, -29), (103030, 10), (104001, 12), (104010, -9), (110025, 3), (110034, 3), (110043, 9), (110052, 14), (110061, 3), (110113, 4), (110122, 8), (110131, 2), (111005, -3), (111014, -6), (111023, -19), (111032, -43), (111041, -22), (111111, -12), (112003, 10), (112012, 32), (112021, 29), (112030, 9), (113001, -18), (113010, -3), (120005, 1), (120014, 3), (120023, 8), (120032, 9), (120041, 2), (121003, -5), (121012, -19), (121021, -25), (121030, 9), (122001, 18), (122010, -3), (130003, 1), (130012, 2), (130021, -2), (130030, -1), (131001, -6), (131010, 6), (200034, 4), (200043, -5), (200052, -5), (200113, -2), (200122, -2), (201005, 1), (201014, -3), (201023, 12), (201032, 7), (201041, 18), (201111, 6), (202003, -8), (202012, -1), (202021, -37), (203001, 18), (203010, -3), (210005, -1), (210023, -6), (210032, -13), (210041, -3), (211003, 7), (211012, 14), (211021, 20), (212001, -18), (212010, -3), (220003, -2), (220012, -4), (220021, -1), (221001, 9), (221010, -3), (300014, -1), (300023, 4), (300032, 4), (301003, -4), (301012, -3), (301021, -13), (302001, 12), (310003, 2), (310012, 4), (310021, 1), (311001, -6), (400003, -1), (400012, -1), (401001, 3)])
def Qytt : Ex := (ofP [(83, -2), (153, -6), (162, 4), (171, 4), (232, 4), (241, 4), (1054, -3), (1063, 9), (1072, -3), (1081, 1), (1090, -1), (1124, -2), (1133, 6), (1142, -14), (1151, -8), (1160, -16), (1230, -12), (2025, -1), (2034, 6), (2043, -4), (2052, 13), (2061, -8), (2070, 11), (2122, 6), (2131, -10), (2140, 50), (3014, 1), (3023, -2), (3032, -11), (3041, 9), (3050, -17), (3120, -6), (4012, -4), (4021, 12), (4030, -13), (5010, 3), (10054, 3), (10063, 1), (10072, 3), (10081, 5), (10090, 1), (10124, 2), (10133, -2), (10142, 6), (10151, 18), (10160, 4), (11025, 2), (11034, -6), (11043, -2), (11052, -14), (11061, -28), (11070, -8), (11122, -10), (11131, -12), (11140, -24), (12014, -2), (12023, 1), (12032, 13), (12041, 27), (12050, 21), (12120, 24), (13012, 9), (13021, -16), (13030, -10), (14010, -6), (20025, -1), (20052, 1), (20061, 6), (20070, 3), (20122, 4), (20131, 10), (20140, 4), (21014, 1), (21023, 1), (21032, -2), (21041, -21), (21050, -18), (21120, -18), (22012, -6), (22021, 6), (22030, 30), (30041, 3), (30050, 2), (31012, 1), (31021, -3), (31030, -8), (32010, 6), (40021, 1), (40030, 1), (41010, -3), (100063, 2), (100133, 2), (100142, -4), (100151, -4), (101034, 3), (101043, -5), (101052, 3), (101061, -1), (101070, 1), (101122, 4), (101131, 2), (101140, 14), (102014, -1), (102023, -1), (102032, -7), (102041, 6), (102050, -9), (102120, -12), (103012, 1), (103021, 1), (103030, 2), (104010, 3), (110034, -3), (110043, -1), (110052, -3), (110061, -5), (110070, -1), (110122, -4), (110131, -8), (110140, -2), (111014, 2), (111023, 2), (111032, 8), (111041, 18), (111050, 6), (111120, 12), (112012, -3), (112021, -6), (112030, -12), (120014, -1), (120023, -1), (120032, -1), (120041, -6), (120050, -3), (121012, 3), (121021, 9), (121030, 12), (122010, -9), (130012, -1), (130021, -4), (130030, -2), (131010, 6)])
def Wytt : Ex := (.s (.s (.m (.m Nt (.s (.m (.m (.v 1) Dt) Dt) Ztt)) Ft) (.m (.m (.m (.m Y3 Dt) Dt) Dt) Ft)) (.s (.m (.m Mt (.s (.m (.m (.v 0) Dt) Dt) Ztt)) Dt) (.m (.m (.m (.m Y1 Dt) Dt) Dt) Ft)))
theorem id_ytt : Wytt.norm = (Ex.a (.m Pytt C1) (.m Qytt C2)).norm := by decide +kernel
end Go.Proofs.YtmohopjblhgdiaaGreatDoor.Ec

/-
  Own text. Sums of points on y y = x x x + b hang on no brackets, where no sum on the way is infinity: in any field. Speaks of no program.
-/
namespace Go.Proofs.YtmohopjblhgdiaaGreatDoor.Ec
set_option linter.unusedVariables false
set_option maxRecDepth 100000
open Go Go.Proofs.YtmohopjblhgdiaaGreatDoor.Ring
section
variable {α : Type} (F : Fd α)
def Fd.sub (a b : α) : α := F.add a (F.mul (F.int (-1)) b)
theorem Fd.Z_of {a b : α} (h : F.eq a b) (ha : F.Z a) : F.Z b := by
  have e : b = F.add a (F.mul (F.int (-1)) (F.add a (F.mul (F.int (-1)) b))) := F.eq_of (fun i => match i with | 0 => a | _ => b) (e := .v 1) (f := .s (.v 0) (.s (.v 0) (.v 1))) rfl rfl (by decide)
  rw [e]
  exact F.za ha (F.zm' _ h)
theorem Fd.sub_eq {a b c d : α} (h : F.eq a b) (h' : F.eq c d) : F.eq (F.sub a c) (F.sub b d) := F.add_eq h (F.mul_eq (F.refl _) h')
theorem Fd.nz {a b : α} (h : ¬ F.Z a) (h' : ¬ F.Z b) : ¬ F.Z (F.mul a b) := fun h0 => (F.zd h0).elim h h'
/-- The first numbers of both sums are one. -/
theorem brx {N D M Q n k x4 x3 x1 x5 : α} (hn : F.eq (F.mul n D) N) (hk : F.eq (F.mul k Q) M) (hD : ¬ F.Z D) (hQ : ¬ F.Z Q)
    (hW : F.Z (F.sub (F.sub (F.mul (F.mul (F.mul N N) Q) Q) (F.mul (F.mul (F.mul M M) D) D)) (F.mul (F.mul (F.mul (F.mul (F.sub (F.sub (F.add x4 x3) x1) x5) D) D) Q) Q))) :
    F.eq (F.sub (F.sub (F.mul n n) x4) x3) (F.sub (F.sub (F.mul k k) x1) x5) := by
  have hn' := F.symm hn
  have hk' := F.symm hk
  have h1 := F.Z_of (F.sub_eq (F.sub_eq (F.mul_eq (F.mul_eq (F.mul_eq hn' hn') (F.refl Q)) (F.refl Q)) (F.mul_eq (F.mul_eq (F.mul_eq hk' hk') (F.refl D)) (F.refl D))) (F.refl (F.mul (F.mul (F.mul (F.mul (F.sub (F.sub (F.add x4 x3) x1) x5) D) D) Q) Q))) hW
  have e : F.sub (F.sub (F.mul (F.mul (F.mul (F.mul n D) (F.mul n D)) Q) Q) (F.mul (F.mul (F.mul (F.mul k Q) (F.mul k Q)) D) D)) (F.mul (F.mul (F.mul (F.mul (F.sub (F.sub (F.add x4 x3) x1) x5) D) D) Q) Q)
      = F.mul (F.sub (F.sub (F.sub (F.mul n n) x4) x3) (F.sub (F.sub (F.mul k k) x1) x5)) (F.mul (F.mul D D) (F.mul Q Q)) :=
    F.eq_of (fun i => match i with | 0 => n | 1 => D | 2 => k | 3 => Q | 4 => x4 | 5 => x3 | 6 => x1 | _ => x5)
      (e := .s (.s (.m (.m (.m (.m (.v 0) (.v 1)) (.m (.v 0) (.v 1))) (.v 3)) (.v 3)) (.m (.m (.m (.m (.v 2) (.v 3)) (.m (.v 2) (.v 3))) (.v 1)) (.v 1))) (.m (.m (.m (.m (.s (.s (.a (.v 4) (.v 5)) (.v 6)) (.v 7)) (.v 1)) (.v 1)) (.v 3)) (.v 3)))
      (f := .m (.s (.s (.s (.m (.v 0) (.v 0)) (.v 4)) (.v 5)) (.s (.s (.m (.v 2) (.v 2)) (.v 6)) (.v 7))) (.m (.m (.v 1) (.v 1)) (.m (.v 3) (.v 3)))) rfl rfl (by decide +kernel)
  rw [e] at h1
  exact (F.zd h1).resolve_right (F.nz (F.nz hD hD) (F.nz hQ hQ))
/-- The second numbers of both sums are one. -/
theorem bry {N D M Q n k x4 x3 x1 y3 y1 : α} (hn : F.eq (F.mul n D) N) (hk : F.eq (F.mul k Q) M) (hD : ¬ F.Z D) (hQ : ¬ F.Z Q)
    (hW : F.Z (F.sub (F.sub (F.mul (F.mul N (F.sub (F.mul (F.mul x3 D) D) (F.sub (F.mul N N) (F.mul (F.mul (F.add x4 x3) D) D)))) Q) (F.mul (F.mul (F.mul (F.mul y3 D) D) D) Q)) (F.sub (F.mul (F.mul M (F.sub (F.mul (F.mul x1 D) D) (F.sub (F.mul N N) (F.mul (F.mul (F.add x4 x3) D) D)))) D) (F.mul (F.mul (F.mul (F.mul y1 D) D) D) Q)))) :
    F.eq (F.sub (F.mul n (F.sub x3 (F.sub (F.sub (F.mul n n) x4) x3))) y3) (F.sub (F.mul k (F.sub x1 (F.sub (F.sub (F.mul n n) x4) x3))) y1) := by
  have hn' := F.symm hn
  have hk' := F.symm hk
  have hx := F.sub_eq (F.mul_eq hn' hn') (F.refl (F.mul (F.mul (F.add x4 x3) D) D))
  have h1 := F.Z_of (F.sub_eq (F.sub_eq (F.mul_eq (F.mul_eq hn' (F.sub_eq (F.refl (F.mul (F.mul x3 D) D)) hx)) (F.refl Q)) (F.refl (F.mul (F.mul (F.mul (F.mul y3 D) D) D) Q))) (F.sub_eq (F.mul_eq (F.mul_eq hk' (F.sub_eq (F.refl (F.mul (F.mul x1 D) D)) hx)) (F.refl D)) (F.refl (F.mul (F.mul (F.mul (F.mul y1 D) D) D) Q)))) hW
  have e : F.sub (F.sub (F.mul (F.mul (F.mul n D) (F.sub (F.mul (F.mul x3 D) D) (F.sub (F.mul (F.mul n D) (F.mul n D)) (F.mul (F.mul (F.add x4 x3) D) D)))) Q) (F.mul (F.mul (F.mul (F.mul y3 D) D) D) Q)) (F.sub (F.mul (F.mul (F.mul k Q) (F.sub (F.mul (F.mul x1 D) D) (F.sub (F.mul (F.mul n D) (F.mul n D)) (F.mul (F.mul (F.add x4 x3) D) D)))) D) (F.mul (F.mul (F.mul (F.mul y1 D) D) D) Q))
      = F.mul (F.sub (F.sub (F.mul n (F.sub x3 (F.sub (F.sub (F.mul n n) x4) x3))) y3) (F.sub (F.mul k (F.sub x1 (F.sub (F.sub (F.mul n n) x4) x3))) y1)) (F.mul (F.mul D D) (F.mul D Q)) :=
    F.eq_of (fun i => match i with | 0 => n | 1 => D | 2 => k | 3 => Q | 4 => x4 | 5 => x3 | 6 => x1 | 7 => y3 | _ => y1)
      (e := .s (.s (.m (.m (.m (.v 0) (.v 1)) (.s (.m (.m (.v 5) (.v 1)) (.v 1)) (.s (.m (.m (.v 0) (.v 1)) (.m (.v 0) (.v 1))) (.m (.m (.a (.v 4) (.v 5)) (.v 1)) (.v 1))))) (.v 3)) (.m (.m (.m (.m (.v 7) (.v 1)) (.v 1)) (.v 1)) (.v 3))) (.s (.m (.m (.m (.v 2) (.v 3)) (.s (.m (.m (.v 6) (.v 1)) (.v 1)) (.s (.m (.m (.v 0) (.v 1)) (.m (.v 0) (.v 1))) (.m (.m (.a (.v 4) (.v 5)) (.v 1)) (.v 1))))) (.v 1)) (.m (.m (.m (.m (.v 8) (.v 1)) (.v 1)) (.v 1)) (.v 3))))
      (f := .m (.s (.s (.m (.v 0) (.s (.v 5) (.s (.s (.m (.v 0) (.v 0)) (.v 4)) (.v 5)))) (.v 7)) (.s (.m (.v 2) (.s (.v 6) (.s (.s (.m (.v 0) (.v 0)) (.v 4)) (.v 5)))) (.v 8))) (.m (.m (.v 1) (.v 1)) (.m (.v 1) (.v 3)))) rfl rfl (by decide +kernel)
  rw [e] at h1
  exact (F.zd h1).resolve_right (F.nz (F.nz hD hD) (F.nz hD hQ))
theorem zid {W P Q : Ex} (en : Nat → α) (h : W.norm = (Ex.a (.m P C1) (.m Q C2)).norm) (h1 : F.Z (C1.val F.toRg en)) (h2 : F.Z (C2.val F.toRg en)) : F.Z (W.val F.toRg en) := by
  rw [same F.toRg en h]
  exact F.za (F.zm' _ h1) (F.zm' _ h2)
/-- Both sums are one point: the outer slopes n, k of a chord and a chord. -/
theorem br_cc (en : Nat → α) {n k : α} (h1 : F.Z (C1.val F.toRg en)) (h2 : F.Z (C2.val F.toRg en)) (hD : ¬ F.Z (Dc.val F.toRg en)) (hQ : ¬ F.Z (Fc.val F.toRg en)) (hn : F.eq (F.mul n (Dc.val F.toRg en)) (Nc.val F.toRg en)) (hk : F.eq (F.mul k (Fc.val F.toRg en)) (Mc.val F.toRg en)) :
    F.eq (F.sub (F.sub (F.mul n n) (X4.val F.toRg en)) (en 1)) (F.sub (F.sub (F.mul k k) (en 0)) (X5.val F.toRg en)) ∧
    F.eq (F.sub (F.mul n (F.sub (en 1) (F.sub (F.sub (F.mul n n) (X4.val F.toRg en)) (en 1)))) (Y3.val F.toRg en)) (F.sub (F.mul k (F.sub (en 0) (F.sub (F.sub (F.mul n n) (X4.val F.toRg en)) (en 1)))) (Y1.val F.toRg en)) :=
  ⟨brx F hn hk hD hQ (zid F en id_xcc h1 h2), bry F hn hk hD hQ (zid F en id_ycc h1 h2)⟩
/-- Both sums are one point: the outer slopes n, k of a chord and a tangent. -/
theorem br_ct (en : Nat → α) {n k : α} (h1 : F.Z (C1.val F.toRg en)) (h2 : F.Z (C2.val F.toRg en)) (hD : ¬ F.Z (Dc.val F.toRg en)) (hQ : ¬ F.Z (Ft.val F.toRg en)) (hn : F.eq (F.mul n (Dc.val F.toRg en)) (Nc.val F.toRg en)) (hk : F.eq (F.mul k (Ft.val F.toRg en)) (Mt.val F.toRg en)) :
    F.eq (F.sub (F.sub (F.mul n n) (X4.val F.toRg en)) (en 1)) (F.sub (F.sub (F.mul k k) (en 0)) (X5.val F.toRg en)) ∧
    F.eq (F.sub (F.mul n (F.sub (en 1) (F.sub (F.sub (F.mul n n) (X4.val F.toRg en)) (en 1)))) (Y3.val F.toRg en)) (F.sub (F.mul k (F.sub (en 0) (F.sub (F.sub (F.mul n n) (X4.val F.toRg en)) (en 1)))) (Y1.val F.toRg en)) :=
  ⟨brx F hn hk hD hQ (zid F en id_xct h1 h2), bry F hn hk hD hQ (zid F en id_yct h1 h2)⟩
/-- Both sums are one point: the outer slopes n, k of a tangent and a chord. -/
theorem br_tc (en : Nat → α) {n k : α} (h1 : F.Z (C1.val F.toRg en)) (h2 : F.Z (C2.val F.toRg en)) (hD : ¬ F.Z (Dt.val F.toRg en)) (hQ : ¬ F.Z (Fc.val F.toRg en)) (hn : F.eq (F.mul n (Dt.val F.toRg en)) (Nt.val F.toRg en)) (hk : F.eq (F.mul k (Fc.val F.toRg en)) (Mc.val F.toRg en)) :
    F.eq (F.sub (F.sub (F.mul n n) (X4.val F.toRg en)) (en 1)) (F.sub (F.sub (F.mul k k) (en 0)) (X5.val F.toRg en)) ∧
    F.eq (F.sub (F.mul n (F.sub (en 1) (F.sub (F.sub (F.mul n n) (X4.val F.toRg en)) (en 1)))) (Y3.val F.toRg en)) (F.sub (F.mul k (F.sub (en 0) (F.sub (F.sub (F.mul n n) (X4.val F.toRg en)) (en 1)))) (Y1.val F.toRg en)) :=
  ⟨brx F hn hk hD hQ (zid F en id_xtc h1 h2), bry F hn hk hD hQ (zid F en id_ytc h1 h2)⟩
/-- Both sums are one point: the outer slopes n, k of a tangent and a tangent. -/
theorem br_tt (en : Nat → α) {n k : α} (h1 : F.Z (C1.val F.toRg en)) (h2 : F.Z (C2.val F.toRg en)) (hD : ¬ F.Z (Dt.val F.toRg en)) (hQ : ¬ F.Z (Ft.val F.toRg en)) (hn : F.eq (F.mul n (Dt.val F.toRg en)) (Nt.val F.toRg en)) (hk : F.eq (F.mul k (Ft.val F.toRg en)) (Mt.val F.toRg en)) :
    F.eq (F.sub (F.sub (F.mul n n) (X4.val F.toRg en)) (en 1)) (F.sub (F.sub (F.mul k k) (en 0)) (X5.val F.toRg en)) ∧
    F.eq (F.sub (F.mul n (F.sub (en 1) (F.sub (F.sub (F.mul n n) (X4.val F.toRg en)) (en 1)))) (Y3.val F.toRg en)) (F.sub (F.mul k (F.sub (en 0) (F.sub (F.sub (F.mul n n) (X4.val F.toRg en)) (en 1)))) (Y1.val F.toRg en)) :=
  ⟨brx F hn hk hD hQ (zid F en id_xtt h1 h2), bry F hn hk hD hQ (zid F en id_ytt h1 h2)⟩
end
end Go.Proofs.YtmohopjblhgdiaaGreatDoor.Ec

/-
  Own text. Chords and tangents of y y = x x x + b: slopes, sums, (-B) + (A + B) = A. In any field. Speaks of no program.
-/
namespace Go.Proofs.YtmohopjblhgdiaaGreatDoor.Ec
set_option linter.unusedVariables false
set_option maxRecDepth 100000
open Go Go.Proofs.YtmohopjblhgdiaaGreatDoor.Ring
section
variable {α : Type} (F : Fd α)
/-- A chord meets the second relation, times x1 - x2. -/
theorem chord_z {l x1 y1 x2 y2 b : α} (h1 : F.Z (F.sub (F.mul y1 y1) (F.add (F.mul (F.mul x1 x1) x1) b))) (h2 : F.Z (F.sub (F.mul y2 y2) (F.add (F.mul (F.mul x2 x2) x2) b))) (h3 : F.Z (F.sub (F.sub y1 y2) (F.mul l (F.sub x1 x2)))) : F.Z (F.mul (F.sub (F.mul l (F.add y1 y2)) (F.add (F.add (F.mul x1 x1) (F.mul x1 x2)) (F.mul x2 x2))) (F.sub x1 x2)) := F.Z_by (fun k_ => match k_ with | 0 => l | 1 => x1 | 2 => y1 | 3 => x2 | 4 => y2 | _ => b) (e := (.m (.s (.m (.v 0) (.a (.v 2) (.v 4))) (.a (.a (.m (.v 1) (.v 1)) (.m (.v 1) (.v 3))) (.m (.v 3) (.v 3)))) (.s (.v 1) (.v 3)))) (f := (.a (.a (.m (.m (.n 1) (.n 1)) (.s (.m (.v 2) (.v 2)) (.a (.m (.m (.v 1) (.v 1)) (.v 1)) (.v 5)))) (.m (.n (-1)) (.s (.m (.v 4) (.v 4)) (.a (.m (.m (.v 3) (.v 3)) (.v 3)) (.v 5))))) (.m (.m (.n (-1)) (.a (.v 2) (.v 4))) (.s (.s (.v 2) (.v 4)) (.m (.v 0) (.s (.v 1) (.v 3))))))) (by decide +kernel) (F.za (F.za (F.zm' _ h1) (F.zm' _ h2)) (F.zm' _ h3))
/-- The sum is on the curve. -/
theorem third_on {l x1 y1 x2 y2 b : α} (h1 : F.Z (F.sub (F.mul y1 y1) (F.add (F.mul (F.mul x1 x1) x1) b))) (h3 : F.Z (F.sub (F.sub y1 y2) (F.mul l (F.sub x1 x2)))) (hc : F.Z (F.sub (F.mul l (F.add y1 y2)) (F.add (F.add (F.mul x1 x1) (F.mul x1 x2)) (F.mul x2 x2)))) : F.Z (F.sub (F.mul (F.sub (F.mul l (F.sub x1 (F.sub (F.sub (F.mul l l) x1) x2))) y1) (F.sub (F.mul l (F.sub x1 (F.sub (F.sub (F.mul l l) x1) x2))) y1)) (F.add (F.mul (F.mul (F.sub (F.sub (F.mul l l) x1) x2) (F.sub (F.sub (F.mul l l) x1) x2)) (F.sub (F.sub (F.mul l l) x1) x2)) b)) := F.Z_by (fun k_ => match k_ with | 0 => l | 1 => x1 | 2 => y1 | 3 => x2 | 4 => y2 | _ => b) (e := (.s (.m (.s (.m (.v 0) (.s (.v 1) (.s (.s (.m (.v 0) (.v 0)) (.v 1)) (.v 3)))) (.v 2)) (.s (.m (.v 0) (.s (.v 1) (.s (.s (.m (.v 0) (.v 0)) (.v 1)) (.v 3)))) (.v 2))) (.a (.m (.m (.s (.s (.m (.v 0) (.v 0)) (.v 1)) (.v 3)) (.s (.s (.m (.v 0) (.v 0)) (.v 1)) (.v 3))) (.s (.s (.m (.v 0) (.v 0)) (.v 1)) (.v 3))) (.v 5)))) (f := (.a (.a (.m (.n 1) (.s (.m (.v 2) (.v 2)) (.a (.m (.m (.v 1) (.v 1)) (.v 1)) (.v 5)))) (.m (.a (.a (.m (.m (.v 0) (.v 0)) (.v 0)) (.m (.m (.n (-1)) (.v 0)) (.v 3))) (.m (.m (.n (-2)) (.v 0)) (.v 1))) (.s (.s (.v 2) (.v 4)) (.m (.v 0) (.s (.v 1) (.v 3)))))) (.m (.a (.a (.m (.v 0) (.v 0)) (.m (.n (-1)) (.v 3))) (.m (.n (-2)) (.v 1))) (.s (.m (.v 0) (.a (.v 2) (.v 4))) (.a (.a (.m (.v 1) (.v 1)) (.m (.v 1) (.v 3))) (.m (.v 3) (.v 3))))))) (by decide +kernel) (F.za (F.za (F.zm' _ h1) (F.zm' _ h3)) (F.zm' _ hc))
/-- The line through the second point's opposite and the sum has the opposite slope .. -/
theorem back_3 {l x1 y1 x2 y2 b : α} (h1 : F.Z (F.sub (F.mul y1 y1) (F.add (F.mul (F.mul x1 x1) x1) b))) (h3 : F.Z (F.sub (F.sub y1 y2) (F.mul l (F.sub x1 x2)))) (hc : F.Z (F.sub (F.mul l (F.add y1 y2)) (F.add (F.add (F.mul x1 x1) (F.mul x1 x2)) (F.mul x2 x2)))) : F.Z (F.sub (F.sub (F.sub (F.int 0) y2) (F.sub (F.mul l (F.sub x1 (F.sub (F.sub (F.mul l l) x1) x2))) y1)) (F.mul (F.sub (F.int 0) l) (F.sub x2 (F.sub (F.sub (F.mul l l) x1) x2)))) := F.Z_by (fun k_ => match k_ with | 0 => l | 1 => x1 | 2 => y1 | 3 => x2 | 4 => y2 | _ => b) (e := (.s (.s (.s (.n 0) (.v 4)) (.s (.m (.v 0) (.s (.v 1) (.s (.s (.m (.v 0) (.v 0)) (.v 1)) (.v 3)))) (.v 2))) (.m (.s (.n 0) (.v 0)) (.s (.v 3) (.s (.s (.m (.v 0) (.v 0)) (.v 1)) (.v 3)))))) (f := (.m (.n 1) (.s (.s (.v 2) (.v 4)) (.m (.v 0) (.s (.v 1) (.v 3)))))) (by decide +kernel) (F.zm' _ h3)
/-- .. and meets the second relation .. -/
theorem back_c {l x1 y1 x2 y2 b : α} (h1 : F.Z (F.sub (F.mul y1 y1) (F.add (F.mul (F.mul x1 x1) x1) b))) (h3 : F.Z (F.sub (F.sub y1 y2) (F.mul l (F.sub x1 x2)))) (hc : F.Z (F.sub (F.mul l (F.add y1 y2)) (F.add (F.add (F.mul x1 x1) (F.mul x1 x2)) (F.mul x2 x2)))) : F.Z (F.sub (F.mul (F.sub (F.int 0) l) (F.add (F.sub (F.int 0) y2) (F.sub (F.mul l (F.sub x1 (F.sub (F.sub (F.mul l l) x1) x2))) y1))) (F.add (F.add (F.mul x2 x2) (F.mul x2 (F.sub (F.sub (F.mul l l) x1) x2))) (F.mul (F.sub (F.sub (F.mul l l) x1) x2) (F.sub (F.sub (F.mul l l) x1) x2)))) := F.Z_by (fun k_ => match k_ with | 0 => l | 1 => x1 | 2 => y1 | 3 => x2 | 4 => y2 | _ => b) (e := (.s (.m (.s (.n 0) (.v 0)) (.a (.s (.n 0) (.v 4)) (.s (.m (.v 0) (.s (.v 1) (.s (.s (.m (.v 0) (.v 0)) (.v 1)) (.v 3)))) (.v 2)))) (.a (.a (.m (.v 3) (.v 3)) (.m (.v 3) (.s (.s (.m (.v 0) (.v 0)) (.v 1)) (.v 3)))) (.m (.s (.s (.m (.v 0) (.v 0)) (.v 1)) (.v 3)) (.s (.s (.m (.v 0) (.v 0)) (.v 1)) (.v 3)))))) (f := (.m (.n 1) (.s (.m (.v 0) (.a (.v 2) (.v 4))) (.a (.a (.m (.v 1) (.v 1)) (.m (.v 1) (.v 3))) (.m (.v 3) (.v 3)))))) (by decide +kernel) (F.zm' _ hc)
/-- .. and its third point is the first one's opposite's .. -/
theorem back_x {l x1 y1 x2 y2 b : α} (h1 : F.Z (F.sub (F.mul y1 y1) (F.add (F.mul (F.mul x1 x1) x1) b))) (h3 : F.Z (F.sub (F.sub y1 y2) (F.mul l (F.sub x1 x2)))) (hc : F.Z (F.sub (F.mul l (F.add y1 y2)) (F.add (F.add (F.mul x1 x1) (F.mul x1 x2)) (F.mul x2 x2)))) : F.Z (F.sub (F.sub (F.sub (F.mul (F.sub (F.int 0) l) (F.sub (F.int 0) l)) x2) (F.sub (F.sub (F.mul l l) x1) x2)) x1) := F.Z_by (fun k_ => match k_ with | 0 => l | 1 => x1 | 2 => y1 | 3 => x2 | 4 => y2 | _ => b) (e := (.s (.s (.s (.m (.s (.n 0) (.v 0)) (.s (.n 0) (.v 0))) (.v 3)) (.s (.s (.m (.v 0) (.v 0)) (.v 1)) (.v 3))) (.v 1))) (f := (.n 0)) (by decide +kernel) F.z0
/-- .. opposite: so their sum is the first point. -/
theorem back_y {l x1 y1 x2 y2 b : α} (h1 : F.Z (F.sub (F.mul y1 y1) (F.add (F.mul (F.mul x1 x1) x1) b))) (h3 : F.Z (F.sub (F.sub y1 y2) (F.mul l (F.sub x1 x2)))) (hc : F.Z (F.sub (F.mul l (F.add y1 y2)) (F.add (F.add (F.mul x1 x1) (F.mul x1 x2)) (F.mul x2 x2)))) : F.Z (F.sub (F.sub (F.mul (F.sub (F.int 0) l) (F.sub x2 x1)) (F.sub (F.int 0) y2)) y1) := F.Z_by (fun k_ => match k_ with | 0 => l | 1 => x1 | 2 => y1 | 3 => x2 | 4 => y2 | _ => b) (e := (.s (.s (.m (.s (.n 0) (.v 0)) (.s (.v 3) (.v 1))) (.s (.n 0) (.v 4))) (.v 2))) (f := (.m (.n (-1)) (.s (.s (.v 2) (.v 4)) (.m (.v 0) (.s (.v 1) (.v 3)))))) (by decide +kernel) (F.zm' _ h3)
end
end Go.Proofs.YtmohopjblhgdiaaGreatDoor.Ec

/-
  Own text. The slope of two points of y y = x x x + b that are not opposite: chord and tangent alike; there is one, and only one. In any field. Speaks of no program.
-/
namespace Go.Proofs.YtmohopjblhgdiaaGreatDoor.Ec
set_option linter.unusedVariables false
set_option maxRecDepth 100000
open Go Go.Proofs.YtmohopjblhgdiaaGreatDoor.Ring
section
variable {α : Type} (F : Fd α)
theorem slope_ux {l m x1 y1 x2 y2 : α} (h3 : F.Z (F.sub (F.sub y1 y2) (F.mul l (F.sub x1 x2)))) (k3 : F.Z (F.sub (F.sub y1 y2) (F.mul m (F.sub x1 x2)))) : F.Z (F.mul (F.sub l m) (F.sub x1 x2)) := F.Z_by (fun k_ => match k_ with | 0 => l | 1 => m | 2 => l | 3 => x1 | 4 => y1 | 5 => x2 | 6 => y2 | _ => l) (e := (.m (.s (.v 0) (.v 1)) (.s (.v 3) (.v 5)))) (f := (.a (.m (.n (-1)) (.s (.s (.v 4) (.v 6)) (.m (.v 0) (.s (.v 3) (.v 5))))) (.m (.n 1) (.s (.s (.v 4) (.v 6)) (.m (.v 1) (.s (.v 3) (.v 5))))))) (by decide +kernel) (F.za (F.zm' _ h3) (F.zm' _ k3))
theorem slope_uy {l m x1 y1 x2 y2 : α} (hc : F.Z (F.sub (F.mul l (F.add y1 y2)) (F.add (F.add (F.mul x1 x1) (F.mul x1 x2)) (F.mul x2 x2)))) (kc : F.Z (F.sub (F.mul m (F.add y1 y2)) (F.add (F.add (F.mul x1 x1) (F.mul x1 x2)) (F.mul x2 x2)))) : F.Z (F.mul (F.sub l m) (F.add y1 y2)) := F.Z_by (fun k_ => match k_ with | 0 => l | 1 => m | 2 => l | 3 => x1 | 4 => y1 | 5 => x2 | 6 => y2 | _ => l) (e := (.m (.s (.v 0) (.v 1)) (.a (.v 4) (.v 6)))) (f := (.a (.m (.n 1) (.s (.m (.v 0) (.a (.v 4) (.v 6))) (.a (.a (.m (.v 3) (.v 3)) (.m (.v 3) (.v 5))) (.m (.v 5) (.v 5))))) (.m (.n (-1)) (.s (.m (.v 1) (.a (.v 4) (.v 6))) (.a (.a (.m (.v 3) (.v 3)) (.m (.v 3) (.v 5))) (.m (.v 5) (.v 5))))))) (by decide +kernel) (F.za (F.zm' _ hc) (F.zm' _ kc))
theorem slope_y {x1 y1 x2 y2 b : α} (h1 : F.Z (F.sub (F.mul y1 y1) (F.add (F.mul (F.mul x1 x1) x1) b))) (h2 : F.Z (F.sub (F.mul y2 y2) (F.add (F.mul (F.mul x2 x2) x2) b))) (hx : F.Z (F.sub x1 x2)) : F.Z (F.mul (F.sub y1 y2) (F.add y1 y2)) := F.Z_by (fun k_ => match k_ with | 0 => x1 | 1 => x1 | 2 => x1 | 3 => x1 | 4 => y1 | 5 => x2 | 6 => y2 | _ => b) (e := (.m (.s (.v 4) (.v 6)) (.a (.v 4) (.v 6)))) (f := (.a (.a (.m (.n 1) (.s (.m (.v 4) (.v 4)) (.a (.m (.m (.v 3) (.v 3)) (.v 3)) (.v 7)))) (.m (.n (-1)) (.s (.m (.v 6) (.v 6)) (.a (.m (.m (.v 5) (.v 5)) (.v 5)) (.v 7))))) (.m (.a (.a (.m (.v 3) (.v 3)) (.m (.v 3) (.v 5))) (.m (.v 5) (.v 5))) (.s (.v 3) (.v 5))))) (by decide +kernel) (F.za (F.za (F.zm' _ h1) (F.zm' _ h2)) (F.zm' _ hx))
theorem slope_tc {i x1 y1 x2 y2 : α} (hi : F.Z (F.add (F.mul (F.add y1 y2) i) (F.int (-1)))) : F.Z (F.sub (F.mul (F.mul (F.add (F.add (F.mul x1 x1) (F.mul x1 x2)) (F.mul x2 x2)) i) (F.add y1 y2)) (F.add (F.add (F.mul x1 x1) (F.mul x1 x2)) (F.mul x2 x2))) := F.Z_by (fun k_ => match k_ with | 0 => i | 1 => i | 2 => i | 3 => x1 | 4 => y1 | 5 => x2 | 6 => y2 | _ => i) (e := (.s (.m (.m (.a (.a (.m (.v 3) (.v 3)) (.m (.v 3) (.v 5))) (.m (.v 5) (.v 5))) (.v 2)) (.a (.v 4) (.v 6))) (.a (.a (.m (.v 3) (.v 3)) (.m (.v 3) (.v 5))) (.m (.v 5) (.v 5))))) (f := (.m (.a (.a (.m (.v 3) (.v 3)) (.m (.v 3) (.v 5))) (.m (.v 5) (.v 5))) (.a (.m (.a (.v 4) (.v 6)) (.v 2)) (.n (-1))))) (by decide +kernel) (F.zm' _ hi)
theorem slope_t3 {l x1 y1 x2 y2 : α} (hy : F.Z (F.sub y1 y2)) (hx : F.Z (F.sub x1 x2)) : F.Z (F.sub (F.sub y1 y2) (F.mul l (F.sub x1 x2))) := F.Z_by (fun k_ => match k_ with | 0 => l | 1 => l | 2 => l | 3 => x1 | 4 => y1 | 5 => x2 | 6 => y2 | _ => l) (e := (.s (.s (.v 4) (.v 6)) (.m (.v 0) (.s (.v 3) (.v 5))))) (f := (.a (.m (.n 1) (.s (.v 4) (.v 6))) (.m (.m (.n (-1)) (.v 0)) (.s (.v 3) (.v 5))))) (by decide +kernel) (F.za (F.zm' _ hy) (F.zm' _ hx))
theorem slope_c3 {i x1 y1 x2 y2 : α} (hi : F.Z (F.add (F.mul (F.sub x1 x2) i) (F.int (-1)))) : F.Z (F.sub (F.sub y1 y2) (F.mul (F.mul (F.sub y1 y2) i) (F.sub x1 x2))) := F.Z_by (fun k_ => match k_ with | 0 => i | 1 => i | 2 => i | 3 => x1 | 4 => y1 | 5 => x2 | 6 => y2 | _ => i) (e := (.s (.s (.v 4) (.v 6)) (.m (.m (.s (.v 4) (.v 6)) (.v 2)) (.s (.v 3) (.v 5))))) (f := (.m (.m (.n (-1)) (.s (.v 4) (.v 6))) (.a (.m (.s (.v 3) (.v 5)) (.v 2)) (.n (-1))))) (by decide +kernel) (F.zm' _ hi)
/-- l is the slope of (x1, y1) and (x2, y2). -/
structure Slope (l x1 y1 x2 y2 : α) : Prop where
  c3 : F.Z (F.sub (F.sub y1 y2) (F.mul l (F.sub x1 x2)))
  cc : F.Z (F.sub (F.mul l (F.add y1 y2)) (F.add (F.add (F.mul x1 x1) (F.mul x1 x2)) (F.mul x2 x2)))
/-- (x, y) is on the curve. -/
def On (b x y : α) : Prop := F.Z (F.sub (F.mul y y) (F.add (F.mul (F.mul x x) x) b))
/-- The points are opposite. -/
def Opp (x1 y1 x2 y2 : α) : Prop := F.Z (F.sub x1 x2) ∧ F.Z (F.add y1 y2)
theorem slope_ex {x1 y1 x2 y2 b : α} (h1 : On F b x1 y1) (h2 : On F b x2 y2) (ho : ¬ Opp F x1 y1 x2 y2) : ∃ l, Slope F l x1 y1 x2 y2 := by
  by_cases hx : F.Z (F.sub x1 x2)
  · have hy : ¬ F.Z (F.add y1 y2) := fun h => ho ⟨hx, h⟩
    have hd := (F.zd (slope_y F h1 h2 hx)).resolve_right hy
    exact ⟨_, slope_t3 F hd hx, slope_tc F (F.zi hy)⟩
  · have h3 := slope_c3 (y1 := y1) (y2 := y2) F (F.zi hx)
    exact ⟨_, h3, (F.zd (chord_z F h1 h2 h3)).resolve_right hx⟩
theorem slope_un {l m x1 y1 x2 y2 : α} (h : Slope F l x1 y1 x2 y2) (k : Slope F m x1 y1 x2 y2) (ho : ¬ Opp F x1 y1 x2 y2) : F.eq l m := by
  rcases F.zd (slope_ux F h.c3 k.c3) with hz | hx
  · exact hz
  rcases F.zd (slope_uy F h.cc k.cc) with hz | hy
  · exact hz
  exact absurd ⟨hx, hy⟩ ho
end
end Go.Proofs.YtmohopjblhgdiaaGreatDoor.Ec

/-
  Own text. Sums of points of y y = x x x + b as a relation, up to how numbers are written. In any field. Speaks of no program.
-/
namespace Go.Proofs.YtmohopjblhgdiaaGreatDoor.Ec
set_option linter.unusedVariables false
set_option maxRecDepth 100000
open Go Go.Proofs.YtmohopjblhgdiaaGreatDoor.Ring
section
variable {α : Type} (F : Fd α)
abbrev Pt (α : Type) := Option (α × α)
def OnP (b : α) : Pt α → Prop
  | none => True
  | some (x, y) => On F b x y
def EqP : Pt α → Pt α → Prop
  | none, none => True
  | some (x, y), some (x', y') => F.eq x x' ∧ F.eq y y'
  | _, _ => False
def negP : Pt α → Pt α
  | none => none
  | some (x, y) => some (x, F.sub (F.int 0) y)
def Xs (l x1 x2 : α) : α := F.sub (F.sub (F.mul l l) x1) x2
def Ys (l x1 y1 x3 : α) : α := F.sub (F.mul l (F.sub x1 x3)) y1
inductive Sum : Pt α → Pt α → Pt α → Prop
  | zl {B C} : EqP F B C → Sum none B C
  | zr {A C} : EqP F A C → Sum A none C
  | op {x1 y1 x2 y2} : Opp F x1 y1 x2 y2 → Sum (some (x1, y1)) (some (x2, y2)) none
  | sl {x1 y1 x2 y2 l x3 y3} : ¬ Opp F x1 y1 x2 y2 → Slope F l x1 y1 x2 y2 → F.eq x3 (Xs F l x1 x2) → F.eq y3 (Ys F l x1 y1 x3) → Sum (some (x1, y1)) (some (x2, y2)) (some (x3, y3))
theorem eqP_refl (A : Pt α) : EqP F A A := by
  rcases A with _ | ⟨x, y⟩
  · trivial
  · exact ⟨F.refl _, F.refl _⟩
theorem eqP_symm {A B : Pt α} (h : EqP F A B) : EqP F B A := by
  rcases A with _ | ⟨x, y⟩ <;> rcases B with _ | ⟨x', y'⟩
  · trivial
  · exact h.elim
  · exact h.elim
  · exact ⟨F.symm h.1, F.symm h.2⟩
theorem eqP_trans {A B C : Pt α} (h : EqP F A B) (k : EqP F B C) : EqP F A C := by
  rcases A with _ | ⟨x, y⟩ <;> rcases B with _ | ⟨x', y'⟩ <;> rcases C with _ | ⟨x'', y''⟩
  all_goals first | trivial | exact h.elim | exact k.elim | exact ⟨F.trans h.1 k.1, F.trans h.2 k.2⟩
theorem Xs_eq {l l' x1 x1' x2 x2' : α} (hl : F.eq l l') (h1 : F.eq x1 x1') (h2 : F.eq x2 x2') : F.eq (Xs F l x1 x2) (Xs F l' x1' x2') :=
  F.sub_eq (F.sub_eq (F.mul_eq hl hl) h1) h2
theorem Ys_eq {l l' x1 x1' y1 y1' x3 x3' : α} (hl : F.eq l l') (h1 : F.eq x1 x1') (k1 : F.eq y1 y1') (h3 : F.eq x3 x3') : F.eq (Ys F l x1 y1 x3) (Ys F l' x1' y1' x3') :=
  F.sub_eq (F.mul_eq hl (F.sub_eq h1 h3)) k1
theorem on_eq {b x y x' y' : α} (hx : F.eq x x') (hy : F.eq y y') (h : On F b x y) : On F b x' y' :=
  F.Z_of (F.sub_eq (F.mul_eq hy hy) (F.add_eq (F.mul_eq (F.mul_eq hx hx) hx) (F.refl b))) h
theorem onP_eq {b : α} {A B : Pt α} (e : EqP F A B) (h : OnP F b A) : OnP F b B := by
  rcases A with _ | ⟨x, y⟩ <;> rcases B with _ | ⟨x', y'⟩
  all_goals first | trivial | exact e.elim | exact on_eq F e.1 e.2 h
theorem opp_eq {x1 y1 x2 y2 x1' y1' x2' y2' : α} (h1 : F.eq x1 x1') (k1 : F.eq y1 y1') (h2 : F.eq x2 x2') (k2 : F.eq y2 y2') (h : Opp F x1 y1 x2 y2) : Opp F x1' y1' x2' y2' :=
  ⟨F.Z_of (F.sub_eq h1 h2) h.1, F.Z_of (F.add_eq k1 k2) h.2⟩
theorem slope_eq {l x1 y1 x2 y2 l' x1' y1' x2' y2' : α} (hl : F.eq l l') (h1 : F.eq x1 x1') (k1 : F.eq y1 y1') (h2 : F.eq x2 x2') (k2 : F.eq y2 y2') (h : Slope F l x1 y1 x2 y2) : Slope F l' x1' y1' x2' y2' :=
  ⟨F.Z_of (F.sub_eq (F.sub_eq k1 k2) (F.mul_eq hl (F.sub_eq h1 h2))) h.c3,
   F.Z_of (F.sub_eq (F.mul_eq hl (F.add_eq k1 k2)) (F.add_eq (F.add_eq (F.mul_eq h1 h1) (F.mul_eq h1 h2)) (F.mul_eq h2 h2))) h.cc⟩
/-- A sum hangs on the points alone, not on how they are written. -/
theorem sum_eq {A B C A' B' C' : Pt α} (a : EqP F A A') (e : EqP F B B') (c : EqP F C C') (h : Sum F A B C) : Sum F A' B' C' := by
  cases h with
  | zl h =>
    rcases A' with _ | ⟨x', y'⟩
    · exact .zl (eqP_trans F (eqP_trans F (eqP_symm F e) h) c)
    · exact a.elim
  | zr h =>
    rcases B' with _ | ⟨x', y'⟩
    · exact .zr (eqP_trans F (eqP_trans F (eqP_symm F a) h) c)
    · exact e.elim
  | op h =>
    rcases A' with _ | ⟨u1, v1⟩
    · exact a.elim
    rcases B' with _ | ⟨u2, v2⟩
    · exact e.elim
    rcases C' with _ | ⟨u3, v3⟩
    · exact .op (opp_eq F a.1 a.2 e.1 e.2 h)
    · exact c.elim
  | sl ho hs h3 k3 =>
    rcases A' with _ | ⟨u1, v1⟩
    · exact a.elim
    rcases B' with _ | ⟨u2, v2⟩
    · exact e.elim
    rcases C' with _ | ⟨u3, v3⟩
    · exact c.elim
    refine .sl (fun h => ho (opp_eq F (F.symm a.1) (F.symm a.2) (F.symm e.1) (F.symm e.2) h)) (slope_eq F (F.refl _) a.1 a.2 e.1 e.2 hs) ?_ ?_
    · exact F.trans (F.symm c.1) (F.trans h3 (Xs_eq F (F.refl _) a.1 e.1))
    · exact F.trans (F.symm c.2) (F.trans k3 (Ys_eq F (F.refl _) a.1 a.2 c.1))
/-- Two points have one sum. -/
theorem sum_un {A B C D : Pt α} (h : Sum F A B C) (k : Sum F A B D) : EqP F C D := by
  cases h with
  | zl h =>
    cases k with
    | zl k => exact eqP_trans F (eqP_symm F h) k
    | zr k => exact eqP_trans F (eqP_symm F h) k
  | zr h =>
    cases k with
    | zl k => exact eqP_trans F (eqP_symm F h) k
    | zr k => exact eqP_trans F (eqP_symm F h) k
  | op h =>
    cases k with
    | op k => trivial
    | sl ko ks k3 l3 => exact absurd h ko
  | sl ho hs h3 m3 =>
    cases k with
    | op k => exact absurd k ho
    | sl ko ks k3 l3 =>
      have hl := slope_un F hs ks ho
      have hx := F.trans h3 (F.trans (Xs_eq F hl (F.refl _) (F.refl _)) (F.symm k3))
      exact ⟨hx, F.trans m3 (F.trans (Ys_eq F hl (F.refl _) (F.refl _) hx) (F.symm l3))⟩
/-- Points on the curve have a sum, and it is on the curve. -/
theorem sum_ex {b : α} {A B : Pt α} (h : OnP F b A) (k : OnP F b B) : ∃ C, Sum F A B C ∧ OnP F b C := by
  rcases A with _ | ⟨x1, y1⟩
  · exact ⟨B, .zl (eqP_refl F B), k⟩
  rcases B with _ | ⟨x2, y2⟩
  · exact ⟨_, .zr (eqP_refl F _), h⟩
  by_cases ho : Opp F x1 y1 x2 y2
  · exact ⟨none, .op ho, trivial⟩
  obtain ⟨l, hs⟩ := slope_ex F h k ho
  exact ⟨some (Xs F l x1 x2, Ys F l x1 y1 (Xs F l x1 x2)), .sl ho hs (F.refl _) (F.refl _), third_on F h hs.c3 hs.cc⟩
theorem sum_on {b : α} {A B C : Pt α} (h : OnP F b A) (k : OnP F b B) (s : Sum F A B C) : OnP F b C := by
  obtain ⟨D, hD, hd⟩ := sum_ex F h k
  exact onP_eq F (sum_un F hD s) hd
end
end Go.Proofs.YtmohopjblhgdiaaGreatDoor.Ec

/-
  Own text. Sums of points: A + B = B + A, (-B) + (A + B) = A, -(A + B) = (-A) + (-B). In any field. Speaks of no program.
-/
namespace Go.Proofs.YtmohopjblhgdiaaGreatDoor.Ec
set_option linter.unusedVariables false
set_option maxRecDepth 100000
open Go Go.Proofs.YtmohopjblhgdiaaGreatDoor.Ring
section
variable {α : Type} (F : Fd α)
theorem cm_3 {l x1 y1 x2 y2 : α} (h3 : F.Z (F.sub (F.sub y1 y2) (F.mul l (F.sub x1 x2)))) : F.Z (F.sub (F.sub y2 y1) (F.mul l (F.sub x2 x1))) := F.Z_by (fun k_ => match k_ with | 0 => l | 1 => x1 | 2 => y1 | 3 => x2 | 4 => y2 | 5 => l | 6 => l | _ => l) (e := (.s (.s (.v 4) (.v 2)) (.m (.v 0) (.s (.v 3) (.v 1))))) (f := (.m (.n (-1)) (.s (.s (.v 2) (.v 4)) (.m (.v 0) (.s (.v 1) (.v 3)))))) (by decide +kernel) (F.zm' _ h3)
theorem cm_c {l x1 y1 x2 y2 : α} (hc : F.Z (F.sub (F.mul l (F.add y1 y2)) (F.add (F.add (F.mul x1 x1) (F.mul x1 x2)) (F.mul x2 x2)))) : F.Z (F.sub (F.mul l (F.add y2 y1)) (F.add (F.add (F.mul x2 x2) (F.mul x2 x1)) (F.mul x1 x1))) := F.Z_by (fun k_ => match k_ with | 0 => l | 1 => x1 | 2 => y1 | 3 => x2 | 4 => y2 | 5 => l | 6 => l | _ => l) (e := (.s (.m (.v 0) (.a (.v 4) (.v 2))) (.a (.a (.m (.v 3) (.v 3)) (.m (.v 3) (.v 1))) (.m (.v 1) (.v 1))))) (f := (.m (.n 1) (.s (.m (.v 0) (.a (.v 2) (.v 4))) (.a (.a (.m (.v 1) (.v 1)) (.m (.v 1) (.v 3))) (.m (.v 3) (.v 3)))))) (by decide +kernel) (F.zm' _ hc)
theorem cm_x {l x1 x2 x3 : α} (k : F.Z (F.sub x3 (F.sub (F.sub (F.mul l l) x1) x2))) : F.Z (F.sub x3 (F.sub (F.sub (F.mul l l) x2) x1)) := F.Z_by (fun k_ => match k_ with | 0 => l | 1 => x1 | 2 => l | 3 => x2 | 4 => l | 5 => x3 | 6 => l | _ => l) (e := (.s (.v 5) (.s (.s (.m (.v 0) (.v 0)) (.v 3)) (.v 1)))) (f := (.m (.n 1) (.s (.v 5) (.s (.s (.m (.v 0) (.v 0)) (.v 1)) (.v 3))))) (by decide +kernel) (F.zm' _ k)
theorem cm_y {l x1 y1 x2 y2 x3 y3 : α} (k : F.Z (F.sub y3 (F.sub (F.mul l (F.sub x1 x3)) y1))) (h3 : F.Z (F.sub (F.sub y1 y2) (F.mul l (F.sub x1 x2)))) : F.Z (F.sub y3 (F.sub (F.mul l (F.sub x2 x3)) y2)) := F.Z_by (fun k_ => match k_ with | 0 => l | 1 => x1 | 2 => y1 | 3 => x2 | 4 => y2 | 5 => x3 | 6 => y3 | _ => l) (e := (.s (.v 6) (.s (.m (.v 0) (.s (.v 3) (.v 5))) (.v 4)))) (f := (.a (.m (.n 1) (.s (.v 6) (.s (.m (.v 0) (.s (.v 1) (.v 5))) (.v 2)))) (.m (.n (-1)) (.s (.s (.v 2) (.v 4)) (.m (.v 0) (.s (.v 1) (.v 3))))))) (by decide +kernel) (F.za (F.zm' _ k) (F.zm' _ h3))
theorem ng_3 {l x1 y1 x2 y2 : α} (h3 : F.Z (F.sub (F.sub y1 y2) (F.mul l (F.sub x1 x2)))) : F.Z (F.sub (F.sub (F.sub (F.int 0) y1) (F.sub (F.int 0) y2)) (F.mul (F.sub (F.int 0) l) (F.sub x1 x2))) := F.Z_by (fun k_ => match k_ with | 0 => l | 1 => x1 | 2 => y1 | 3 => x2 | 4 => y2 | 5 => l | 6 => l | _ => l) (e := (.s (.s (.s (.n 0) (.v 2)) (.s (.n 0) (.v 4))) (.m (.s (.n 0) (.v 0)) (.s (.v 1) (.v 3))))) (f := (.m (.n (-1)) (.s (.s (.v 2) (.v 4)) (.m (.v 0) (.s (.v 1) (.v 3)))))) (by decide +kernel) (F.zm' _ h3)
theorem ng_c {l x1 y1 x2 y2 : α} (hc : F.Z (F.sub (F.mul l (F.add y1 y2)) (F.add (F.add (F.mul x1 x1) (F.mul x1 x2)) (F.mul x2 x2)))) : F.Z (F.sub (F.mul (F.sub (F.int 0) l) (F.add (F.sub (F.int 0) y1) (F.sub (F.int 0) y2))) (F.add (F.add (F.mul x1 x1) (F.mul x1 x2)) (F.mul x2 x2))) := F.Z_by (fun k_ => match k_ with | 0 => l | 1 => x1 | 2 => y1 | 3 => x2 | 4 => y2 | 5 => l | 6 => l | _ => l) (e := (.s (.m (.s (.n 0) (.v 0)) (.a (.s (.n 0) (.v 2)) (.s (.n 0) (.v 4)))) (.a (.a (.m (.v 1) (.v 1)) (.m (.v 1) (.v 3))) (.m (.v 3) (.v 3))))) (f := (.m (.n 1) (.s (.m (.v 0) (.a (.v 2) (.v 4))) (.a (.a (.m (.v 1) (.v 1)) (.m (.v 1) (.v 3))) (.m (.v 3) (.v 3)))))) (by decide +kernel) (F.zm' _ hc)
theorem ng_x {l x1 x2 x3 : α} (k : F.Z (F.sub x3 (F.sub (F.sub (F.mul l l) x1) x2))) : F.Z (F.sub x3 (F.sub (F.sub (F.mul (F.sub (F.int 0) l) (F.sub (F.int 0) l)) x1) x2)) := F.Z_by (fun k_ => match k_ with | 0 => l | 1 => x1 | 2 => l | 3 => x2 | 4 => l | 5 => x3 | 6 => l | _ => l) (e := (.s (.v 5) (.s (.s (.m (.s (.n 0) (.v 0)) (.s (.n 0) (.v 0))) (.v 1)) (.v 3)))) (f := (.m (.n 1) (.s (.v 5) (.s (.s (.m (.v 0) (.v 0)) (.v 1)) (.v 3))))) (by decide +kernel) (F.zm' _ k)
theorem ng_y {l x1 y1 x3 y3 : α} (k : F.Z (F.sub y3 (F.sub (F.mul l (F.sub x1 x3)) y1))) : F.Z (F.sub (F.sub (F.int 0) y3) (F.sub (F.mul (F.sub (F.int 0) l) (F.sub x1 x3)) (F.sub (F.int 0) y1))) := F.Z_by (fun k_ => match k_ with | 0 => l | 1 => x1 | 2 => y1 | 3 => l | 4 => l | 5 => x3 | 6 => y3 | _ => l) (e := (.s (.s (.n 0) (.v 6)) (.s (.m (.s (.n 0) (.v 0)) (.s (.v 1) (.v 5))) (.s (.n 0) (.v 2))))) (f := (.m (.n (-1)) (.s (.v 6) (.s (.m (.v 0) (.s (.v 1) (.v 5))) (.v 2))))) (by decide +kernel) (F.zm' _ k)
theorem ng_o {y1 y2 : α} (k : F.Z (F.add y1 y2)) : F.Z (F.add (F.sub (F.int 0) y1) (F.sub (F.int 0) y2)) := F.Z_by (fun k_ => match k_ with | 0 => y1 | 1 => y1 | 2 => y1 | 3 => y1 | 4 => y2 | 5 => y1 | 6 => y1 | _ => y1) (e := (.a (.s (.n 0) (.v 2)) (.s (.n 0) (.v 4)))) (f := (.m (.n (-1)) (.a (.v 2) (.v 4)))) (by decide +kernel) (F.zm' _ k)
theorem ng_i {y1 y2 : α} (k : F.Z (F.add (F.sub (F.int 0) y1) (F.sub (F.int 0) y2))) : F.Z (F.add y1 y2) := F.Z_by (fun k_ => match k_ with | 0 => y1 | 1 => y1 | 2 => y1 | 3 => y1 | 4 => y2 | 5 => y1 | 6 => y1 | _ => y1) (e := (.a (.v 2) (.v 4))) (f := (.m (.n (-1)) (.a (.s (.n 0) (.v 2)) (.s (.n 0) (.v 4))))) (by decide +kernel) (F.zm' _ k)
theorem op_c {y1 y2 : α} (k : F.Z (F.add y1 y2)) : F.Z (F.add y2 y1) := F.Z_by (fun k_ => match k_ with | 0 => y1 | 1 => y1 | 2 => y1 | 3 => y1 | 4 => y2 | 5 => y1 | 6 => y1 | _ => y1) (e := (.a (.v 4) (.v 2))) (f := (.m (.n 1) (.a (.v 2) (.v 4)))) (by decide +kernel) (F.zm' _ k)
theorem op_x {x1 x2 : α} (k : F.Z (F.sub x1 x2)) : F.Z (F.sub x2 x1) := F.Z_by (fun k_ => match k_ with | 0 => x1 | 1 => x1 | 2 => x1 | 3 => x2 | 4 => x1 | 5 => x1 | 6 => x1 | _ => x1) (e := (.s (.v 3) (.v 1))) (f := (.m (.n (-1)) (.s (.v 1) (.v 3)))) (by decide +kernel) (F.zm' _ k)
theorem bk_o {y1 y2 : α} (k : F.Z (F.sub y1 y2)) : F.Z (F.add (F.sub (F.int 0) y1) y2) := F.Z_by (fun k_ => match k_ with | 0 => y1 | 1 => y1 | 2 => y1 | 3 => y1 | 4 => y2 | 5 => y1 | 6 => y1 | _ => y1) (e := (.a (.s (.n 0) (.v 2)) (.v 4))) (f := (.m (.n (-1)) (.s (.v 2) (.v 4)))) (by decide +kernel) (F.zm' _ k)
theorem bk_r {y1 y2 : α} (k : F.Z (F.add y1 y2)) : F.Z (F.sub (F.sub (F.int 0) y2) y1) := F.Z_by (fun k_ => match k_ with | 0 => y1 | 1 => y1 | 2 => y1 | 3 => y1 | 4 => y2 | 5 => y1 | 6 => y1 | _ => y1) (e := (.s (.s (.n 0) (.v 4)) (.v 2))) (f := (.m (.n (-1)) (.a (.v 2) (.v 4)))) (by decide +kernel) (F.zm' _ k)
theorem bk_2 {l x1 y1 x2 y2 x3 y3 : α} (h3 : F.Z (F.sub (F.sub y1 y2) (F.mul l (F.sub x1 x2)))) (ky : F.Z (F.sub y3 (F.sub (F.mul l (F.sub x1 x3)) y1))) (hx : F.Z (F.sub x2 x3)) (ho : F.Z (F.add (F.sub (F.int 0) y2) y3)) : F.Z (F.mul (F.int 2) y2) := F.Z_by (fun k_ => match k_ with | 0 => l | 1 => x1 | 2 => y1 | 3 => x2 | 4 => y2 | 5 => x3 | 6 => y3 | _ => l) (e := (.m (.n 2) (.v 4))) (f := (.a (.a (.a (.m (.n (-1)) (.s (.s (.v 2) (.v 4)) (.m (.v 0) (.s (.v 1) (.v 3))))) (.m (.n 1) (.s (.v 6) (.s (.m (.v 0) (.s (.v 1) (.v 5))) (.v 2))))) (.m (.v 0) (.s (.v 3) (.v 5)))) (.m (.n (-1)) (.a (.s (.n 0) (.v 4)) (.v 6))))) (by decide +kernel) (F.za (F.za (F.za (F.zm' _ h3) (F.zm' _ ky)) (F.zm' _ hx)) (F.zm' _ ho))
theorem bk_3 {l x1 y1 x2 y2 x3 : α} (h3 : F.Z (F.sub (F.sub y1 y2) (F.mul l (F.sub x1 x2)))) (hc : F.Z (F.sub (F.mul l (F.add y1 y2)) (F.add (F.add (F.mul x1 x1) (F.mul x1 x2)) (F.mul x2 x2)))) (kx : F.Z (F.sub x3 (F.sub (F.sub (F.mul l l) x1) x2))) (hx : F.Z (F.sub x2 x3)) (hy : F.Z y2) : F.Z (F.mul (F.int 3) (F.mul x2 x2)) := F.Z_by (fun k_ => match k_ with | 0 => l | 1 => x1 | 2 => y1 | 3 => x2 | 4 => y2 | 5 => x3 | 6 => l | _ => l) (e := (.m (.n 3) (.m (.v 3) (.v 3)))) (f := (.a (.a (.a (.a (.m (.v 0) (.s (.s (.v 2) (.v 4)) (.m (.v 0) (.s (.v 1) (.v 3))))) (.m (.n (-1)) (.s (.m (.v 0) (.a (.v 2) (.v 4))) (.a (.a (.m (.v 1) (.v 1)) (.m (.v 1) (.v 3))) (.m (.v 3) (.v 3)))))) (.m (.m (.n (-1)) (.s (.v 1) (.v 3))) (.s (.v 5) (.s (.s (.m (.v 0) (.v 0)) (.v 1)) (.v 3))))) (.m (.m (.n (-1)) (.s (.v 1) (.v 3))) (.s (.v 3) (.v 5)))) (.m (.m (.n 2) (.v 0)) (.v 4)))) (by decide +kernel) (F.za (F.za (F.za (F.za (F.zm' _ h3) (F.zm' _ hc)) (F.zm' _ kx)) (F.zm' _ hx)) (F.zm' _ hy))
theorem bk_b {x2 y2 b : α} (h2 : F.Z (F.sub (F.mul y2 y2) (F.add (F.mul (F.mul x2 x2) x2) b))) (hy : F.Z y2) (hz : F.Z x2) : F.Z b := F.Z_by (fun k_ => match k_ with | 0 => x2 | 1 => x2 | 2 => x2 | 3 => x2 | 4 => y2 | 5 => x2 | 6 => x2 | _ => b) (e := (.v 7)) (f := (.a (.a (.m (.n (-1)) (.s (.m (.v 4) (.v 4)) (.a (.m (.m (.v 3) (.v 3)) (.v 3)) (.v 7)))) (.m (.v 4) (.v 4))) (.m (.m (.n (-1)) (.m (.v 3) (.v 3))) (.v 3)))) (by decide +kernel) (F.za (F.za (F.zm' _ h2) (F.zm' _ hy)) (F.zm' _ hz))
theorem sum_comm {A B C : Pt α} (h : Sum F A B C) : Sum F B A C := by
  cases h with
  | zl h => exact .zr h
  | zr h => exact .zl h
  | op h => exact .op ⟨op_x F h.1, op_c F h.2⟩
  | sl ho hs h3 k3 => exact .sl (fun h => ho ⟨op_x F h.1, op_c F h.2⟩) ⟨cm_3 F hs.c3, cm_c F hs.cc⟩ (cm_x F h3) (cm_y F k3 hs.c3)
theorem neg_eq {A B : Pt α} (h : EqP F A B) : EqP F (negP F A) (negP F B) := by
  rcases A with _ | ⟨x, y⟩ <;> rcases B with _ | ⟨x', y'⟩
  all_goals first | trivial | exact h.elim | exact ⟨h.1, F.sub_eq (F.refl _) h.2⟩
theorem sum_neg {A B C : Pt α} (h : Sum F A B C) : Sum F (negP F A) (negP F B) (negP F C) := by
  cases h with
  | zl h => exact .zl (neg_eq F h)
  | zr h => exact .zr (neg_eq F h)
  | op h => exact .op ⟨h.1, ng_o F h.2⟩
  | sl ho hs h3 k3 => exact .sl (fun h => ho ⟨h.1, ng_i F h.2⟩) ⟨ng_3 F hs.c3, ng_c F hs.cc⟩ (ng_x F h3) (ng_y F k3)
theorem nz_int {n : Int} (h : ¬ n % Go.Proofs.YtmohopjblhgdiaaGreatDoor.Fp.PP = 0) : ¬ F.Z (F.int n) := fun k => h (F.ze.mp k)
/-- (-B) + (A + B) = A. -/
theorem sum_back {b : α} (hb : ¬ F.Z b) {A B C : Pt α} (a : OnP F b A) (e : OnP F b B) (h : Sum F A B C) : Sum F (negP F B) C A := by
  cases h with
  | zl h =>
    rcases B with _ | ⟨x2, y2⟩ <;> rcases C with _ | ⟨x3, y3⟩
    · exact .zl trivial
    · exact h.elim
    · exact h.elim
    · exact .op ⟨h.1, bk_o F h.2⟩
  | zr h => exact .zl (eqP_symm F h)
  | op h => exact .zr ⟨op_x F h.1, bk_r F h.2⟩
  | @sl x1 y1 x2 y2 l x3 y3 ho hs h3 k3 =>
    by_cases hp : Opp F x2 (F.sub (F.int 0) y2) x3 y3
    · exfalso
      have hy := (F.zd (bk_2 F hs.c3 k3 hp.1 hp.2)).resolve_left (nz_int F (by decide +kernel))
      have hz := (F.zd (bk_3 F hs.c3 hs.cc h3 hp.1 hy)).resolve_left (nz_int F (by decide +kernel))
      exact hb (bk_b F e hy ((F.zd hz).elim id id))
    · have e3 : F.eq (Xs F l x1 x2) x3 := F.symm h3
      have f3 : F.eq (Ys F l x1 y1 (Xs F l x1 x2)) y3 := F.trans (Ys_eq F (F.refl _) (F.refl _) (F.refl _) e3) (F.symm k3)
      refine .sl hp (slope_eq F (F.refl _) (F.refl _) (F.refl _) e3 f3 ⟨back_3 F a hs.c3 hs.cc, back_c F a hs.c3 hs.cc⟩) ?_ ?_
      · exact F.trans (F.symm (back_x F a hs.c3 hs.cc)) (Xs_eq F (F.refl _) (F.refl _) e3)
      · exact F.symm (back_y F a hs.c3 hs.cc)
end
end Go.Proofs.YtmohopjblhgdiaaGreatDoor.Ec

/-
  Own text. Sums of points hang on no brackets: (A + B) + C = A + (B + C). In any field. Speaks of no program.
-/
namespace Go.Proofs.YtmohopjblhgdiaaGreatDoor.Ec
set_option linter.unusedVariables false
set_option maxRecDepth 100000
open Go Go.Proofs.YtmohopjblhgdiaaGreatDoor.Ring
section
variable {α : Type} (F : Fd α)
theorem as_1 {l x1 y1 x2 y2 : α} (c3 : F.Z (F.sub (F.sub y1 y2) (F.mul l (F.sub x1 x2)))) : F.Z (F.sub y1 (F.add y2 (F.mul l (F.sub x1 x2)))) := F.Z_by (fun k_ => match k_ with | 0 => l | 1 => l | 2 => x1 | 3 => y1 | 4 => x2 | 5 => y2 | 6 => l | 7 => l | 8 => l | 9 => l | 10 => l | _ => l) (e := (.s (.v 3) (.a (.v 5) (.m (.v 0) (.s (.v 2) (.v 4)))))) (f := (.m (.n 1) (.s (.s (.v 3) (.v 5)) (.m (.v 0) (.s (.v 2) (.v 4)))))) (by decide +kernel) (F.zm' _ c3)
theorem as_3 {m x2 y2 x3 y3 : α} (k3 : F.Z (F.sub (F.sub y2 y3) (F.mul m (F.sub x2 x3)))) : F.Z (F.sub y3 (F.add y2 (F.mul m (F.sub x3 x2)))) := F.Z_by (fun k_ => match k_ with | 0 => m | 1 => m | 2 => m | 3 => m | 4 => x2 | 5 => y2 | 6 => x3 | 7 => y3 | 8 => m | 9 => m | 10 => m | _ => m) (e := (.s (.v 7) (.a (.v 5) (.m (.v 1) (.s (.v 6) (.v 4)))))) (f := (.m (.n (-1)) (.s (.s (.v 5) (.v 7)) (.m (.v 1) (.s (.v 4) (.v 6)))))) (by decide +kernel) (F.zm' _ k3)
theorem as_4 {l x1 y1 x2 y2 x4 y4 : α} (c3 : F.Z (F.sub (F.sub y1 y2) (F.mul l (F.sub x1 x2)))) (hx : F.Z (F.sub x4 (F.sub (F.sub (F.mul l l) x1) x2))) (hy : F.Z (F.sub y4 (F.sub (F.mul l (F.sub x1 x4)) y1))) : F.Z (F.sub y4 (F.mul (F.int (-1)) (F.add y2 (F.mul l (F.sub (F.sub (F.sub (F.mul l l) x1) x2) x2))))) := F.Z_by (fun k_ => match k_ with | 0 => l | 1 => l | 2 => x1 | 3 => y1 | 4 => x2 | 5 => y2 | 6 => l | 7 => l | 8 => x4 | 9 => y4 | 10 => l | _ => l) (e := (.s (.v 9) (.m (.n (-1)) (.a (.v 5) (.m (.v 0) (.s (.s (.s (.m (.v 0) (.v 0)) (.v 2)) (.v 4)) (.v 4))))))) (f := (.a (.a (.m (.n (-1)) (.s (.s (.v 3) (.v 5)) (.m (.v 0) (.s (.v 2) (.v 4))))) (.m (.m (.n (-1)) (.v 0)) (.s (.v 8) (.s (.s (.m (.v 0) (.v 0)) (.v 2)) (.v 4))))) (.m (.n 1) (.s (.v 9) (.s (.m (.v 0) (.s (.v 2) (.v 8))) (.v 3)))))) (by decide +kernel) (F.za (F.za (F.zm' _ c3) (F.zm' _ hx)) (F.zm' _ hy))
theorem as_5 {m x2 y2 x3 x5 y5 : α} (hx : F.Z (F.sub x5 (F.sub (F.sub (F.mul m m) x2) x3))) (hy : F.Z (F.sub y5 (F.sub (F.mul m (F.sub x2 x5)) y2))) : F.Z (F.sub y5 (F.mul (F.int (-1)) (F.add y2 (F.mul m (F.sub (F.sub (F.sub (F.mul m m) x2) x3) x2))))) := F.Z_by (fun k_ => match k_ with | 0 => m | 1 => m | 2 => m | 3 => m | 4 => x2 | 5 => y2 | 6 => x3 | 7 => m | 8 => m | 9 => m | 10 => x5 | _ => y5) (e := (.s (.v 11) (.m (.n (-1)) (.a (.v 5) (.m (.v 1) (.s (.s (.s (.m (.v 1) (.v 1)) (.v 4)) (.v 6)) (.v 4))))))) (f := (.a (.m (.m (.n (-1)) (.v 1)) (.s (.v 10) (.s (.s (.m (.v 1) (.v 1)) (.v 4)) (.v 6)))) (.m (.n 1) (.s (.v 11) (.s (.m (.v 1) (.s (.v 4) (.v 10))) (.v 5)))))) (by decide +kernel) (F.za (F.zm' _ hx) (F.zm' _ hy))
theorem as_c1 {l x1 y1 x2 y2 : α} (c3 : F.Z (F.sub (F.sub y1 y2) (F.mul l (F.sub x1 x2)))) (cc : F.Z (F.sub (F.mul l (F.add y1 y2)) (F.add (F.add (F.mul x1 x1) (F.mul x1 x2)) (F.mul x2 x2)))) : F.Z (F.sub (F.add (F.mul (F.mul (F.int 2) l) y2) (F.mul (F.mul l l) (F.sub x1 x2))) (F.add (F.add (F.mul x1 x1) (F.mul x1 x2)) (F.mul x2 x2))) := F.Z_by (fun k_ => match k_ with | 0 => l | 1 => l | 2 => x1 | 3 => y1 | 4 => x2 | 5 => y2 | 6 => l | 7 => l | 8 => l | 9 => l | 10 => l | _ => l) (e := (.s (.a (.m (.m (.n 2) (.v 0)) (.v 5)) (.m (.m (.v 0) (.v 0)) (.s (.v 2) (.v 4)))) (.a (.a (.m (.v 2) (.v 2)) (.m (.v 2) (.v 4))) (.m (.v 4) (.v 4))))) (f := (.a (.m (.m (.n (-1)) (.v 0)) (.s (.s (.v 3) (.v 5)) (.m (.v 0) (.s (.v 2) (.v 4))))) (.m (.n 1) (.s (.m (.v 0) (.a (.v 3) (.v 5))) (.a (.a (.m (.v 2) (.v 2)) (.m (.v 2) (.v 4))) (.m (.v 4) (.v 4))))))) (by decide +kernel) (F.za (F.zm' _ c3) (F.zm' _ cc))
theorem as_c2 {m x2 y2 x3 y3 : α} (k3 : F.Z (F.sub (F.sub y2 y3) (F.mul m (F.sub x2 x3)))) (kc : F.Z (F.sub (F.mul m (F.add y2 y3)) (F.add (F.add (F.mul x2 x2) (F.mul x2 x3)) (F.mul x3 x3)))) : F.Z (F.sub (F.add (F.mul (F.mul (F.int 2) m) y2) (F.mul (F.mul m m) (F.sub x3 x2))) (F.add (F.add (F.mul x3 x3) (F.mul x3 x2)) (F.mul x2 x2))) := F.Z_by (fun k_ => match k_ with | 0 => m | 1 => m | 2 => m | 3 => m | 4 => x2 | 5 => y2 | 6 => x3 | 7 => y3 | 8 => m | 9 => m | 10 => m | _ => m) (e := (.s (.a (.m (.m (.n 2) (.v 1)) (.v 5)) (.m (.m (.v 1) (.v 1)) (.s (.v 6) (.v 4)))) (.a (.a (.m (.v 6) (.v 6)) (.m (.v 6) (.v 4))) (.m (.v 4) (.v 4))))) (f := (.a (.m (.v 1) (.s (.s (.v 5) (.v 7)) (.m (.v 1) (.s (.v 4) (.v 6))))) (.m (.n 1) (.s (.m (.v 1) (.a (.v 5) (.v 7))) (.a (.a (.m (.v 4) (.v 4)) (.m (.v 4) (.v 6))) (.m (.v 6) (.v 6))))))) (by decide +kernel) (F.za (F.zm' _ k3) (F.zm' _ kc))
theorem as_n {l x1 y1 x2 y2 : α} (c3 : F.Z (F.sub (F.sub y1 y2) (F.mul l (F.sub x1 x2)))) : F.Z (F.sub (F.mul l (F.sub x2 x1)) (F.sub y2 y1)) := F.Z_by (fun k_ => match k_ with | 0 => l | 1 => l | 2 => x1 | 3 => y1 | 4 => x2 | 5 => y2 | 6 => l | 7 => l | 8 => l | 9 => l | 10 => l | _ => l) (e := (.s (.m (.v 0) (.s (.v 4) (.v 2))) (.s (.v 5) (.v 3)))) (f := (.m (.n 1) (.s (.s (.v 3) (.v 5)) (.m (.v 0) (.s (.v 2) (.v 4)))))) (by decide +kernel) (F.zm' _ c3)
theorem as_t {l x1 y1 x2 y2 : α} (cc : F.Z (F.sub (F.mul l (F.add y1 y2)) (F.add (F.add (F.mul x1 x1) (F.mul x1 x2)) (F.mul x2 x2)))) : F.Z (F.sub (F.mul l (F.add y2 y1)) (F.add (F.add (F.mul x2 x2) (F.mul x2 x1)) (F.mul x1 x1))) := F.Z_by (fun k_ => match k_ with | 0 => l | 1 => l | 2 => x1 | 3 => y1 | 4 => x2 | 5 => y2 | 6 => l | 7 => l | 8 => l | 9 => l | 10 => l | _ => l) (e := (.s (.m (.v 0) (.a (.v 5) (.v 3))) (.a (.a (.m (.v 4) (.v 4)) (.m (.v 4) (.v 2))) (.m (.v 2) (.v 2))))) (f := (.m (.n 1) (.s (.m (.v 0) (.a (.v 3) (.v 5))) (.a (.a (.m (.v 2) (.v 2)) (.m (.v 2) (.v 4))) (.m (.v 4) (.v 4)))))) (by decide +kernel) (F.zm' _ cc)
theorem nn {y1 : α}  : F.Z (F.sub (F.sub (F.int 0) (F.sub (F.int 0) y1)) y1) := F.Z_by (fun k_ => match k_ with | 0 => y1 | 1 => y1 | 2 => y1 | 3 => y1 | 4 => y1 | 5 => y1 | 6 => y1 | 7 => y1 | 8 => y1 | 9 => y1 | 10 => y1 | _ => y1) (e := (.s (.s (.n 0) (.s (.n 0) (.v 3))) (.v 3))) (f := (.n 0)) (by decide +kernel) F.z0
theorem no_opp {x1 y1 x2 y2 : α} (ho : ¬ Opp F x1 y1 x2 y2) (h : F.Z (F.sub x2 x1)) : ¬ F.Z (F.add y2 y1) := fun k => ho ⟨op_x F h, op_c F k⟩
/-- Where no sum on the way is infinity. -/
theorem br_all {x1 y1 x2 y2 x3 y3 l m x4 y4 x5 y5 n k u v u' v' : α} (hl : Slope F l x1 y1 x2 y2) (hm : Slope F m x2 y2 x3 y3)
    (hx4 : F.eq x4 (Xs F l x1 x2)) (hy4 : F.eq y4 (Ys F l x1 y1 x4)) (hx5 : F.eq x5 (Xs F m x2 x3)) (hy5 : F.eq y5 (Ys F m x2 y2 x5))
    (on : ¬ Opp F x4 y4 x3 y3) (hn : Slope F n x4 y4 x3 y3) (ok : ¬ Opp F x1 y1 x5 y5) (hk : Slope F k x1 y1 x5 y5)
    (hu : F.eq u (Xs F n x4 x3)) (hv : F.eq v (Ys F n x4 y4 u)) (hu' : F.eq u' (Xs F k x1 x5)) (hv' : F.eq v' (Ys F k x1 y1 u')) : F.eq u u' ∧ F.eq v v' := by
  let en : Nat → α := fun i => match i with | 0 => x1 | 1 => x3 | 2 => x2 | 3 => y2 | 4 => l | _ => m
  have q1 : F.eq y1 (Y1.val F.toRg en) := as_1 F hl.c3
  have q3 : F.eq y3 (Y3.val F.toRg en) := as_3 F hm.c3
  have qx4 : F.eq x4 (X4.val F.toRg en) := hx4
  have qy4 : F.eq y4 (Y4.val F.toRg en) := as_4 F hl.c3 hx4 hy4
  have qx5 : F.eq x5 (X5.val F.toRg en) := hx5
  have qy5 : F.eq y5 (Y5.val F.toRg en) := as_5 F hx5 hy5
  have e1 : F.Z (C1.val F.toRg en) := as_c1 F hl.c3 hl.cc
  have e2 : F.Z (C2.val F.toRg en) := as_c2 F hm.c3 hm.cc
  have on' : ¬ Opp F (X4.val F.toRg en) (Y4.val F.toRg en) x3 (Y3.val F.toRg en) := fun h => on (opp_eq F (F.symm qx4) (F.symm qy4) (F.refl _) (F.symm q3) h)
  have ok' : ¬ Opp F x1 (Y1.val F.toRg en) (X5.val F.toRg en) (Y5.val F.toRg en) := fun h => ok (opp_eq F (F.refl _) (F.symm q1) (F.symm qx5) (F.symm qy5) h)
  have sn := slope_eq F (F.refl _) qx4 qy4 (F.refl _) q3 hn
  have sk := slope_eq F (F.refl _) (F.refl _) q1 qx5 qy5 hk
  have main : F.eq (F.sub (F.sub (F.mul n n) (X4.val F.toRg en)) (en 1)) (F.sub (F.sub (F.mul k k) (en 0)) (X5.val F.toRg en)) ∧
      F.eq (F.sub (F.mul n (F.sub (en 1) (F.sub (F.sub (F.mul n n) (X4.val F.toRg en)) (en 1)))) (Y3.val F.toRg en)) (F.sub (F.mul k (F.sub (en 0) (F.sub (F.sub (F.mul n n) (X4.val F.toRg en)) (en 1)))) (Y1.val F.toRg en)) := by
    by_cases hD : F.Z (Dc.val F.toRg en) <;> by_cases hQ : F.Z (Fc.val F.toRg en)
    · exact br_tt F en e1 e2 (no_opp F on' hD) (no_opp F ok' hQ) (as_t F sn.cc) (as_t F sk.cc)
    · exact br_tc F en e1 e2 (no_opp F on' hD) hQ (as_t F sn.cc) (as_n F sk.c3)
    · exact br_ct F en e1 e2 hD (no_opp F ok' hQ) (as_n F sn.c3) (as_t F sk.cc)
    · exact br_cc F en e1 e2 hD hQ (as_n F sn.c3) (as_n F sk.c3)
  have hM : F.eq u (F.sub (F.sub (F.mul n n) (X4.val F.toRg en)) (en 1)) := F.trans hu (Xs_eq F (F.refl _) qx4 (F.refl _))
  have hx : F.eq u u' := F.trans hM (F.trans main.1 (F.symm (F.trans hu' (Xs_eq F (F.refl _) (F.refl _) qx5))))
  refine ⟨hx, ?_⟩
  have a1 : F.eq v (Ys F n x3 y3 u) := cm_y F hv hn.c3
  have a2 := F.trans a1 (Ys_eq F (F.refl n) (F.refl x3) q3 hM)
  have a3 : F.eq v (Ys F k x1 (Y1.val F.toRg en) (F.sub (F.sub (F.mul n n) (X4.val F.toRg en)) (en 1))) := F.trans a2 main.2
  exact F.trans a3 (F.trans (Ys_eq F (F.refl k) (F.refl x1) (F.symm q1) (F.trans (F.symm hM) hx)) (F.symm hv'))
theorem neg_neg (A : Pt α) : EqP F (negP F (negP F A)) A := by
  rcases A with _ | ⟨x, y⟩
  · trivial
  · exact ⟨F.refl _, nn F⟩
theorem sum_nl {B D : Pt α} (h : Sum F none B D) : EqP F B D := by
  cases h with
  | zl h => exact h
  | zr h => exact h
theorem sum_nr {B D : Pt α} (h : Sum F B none D) : EqP F B D := by
  cases h with
  | zl h => exact h
  | zr h => exact h
theorem sum_op {A B : Pt α} (h : Sum F A B none) : EqP F (negP F A) B := by
  cases h with
  | zl h =>
    rcases B with _ | ⟨x, y⟩
    · trivial
    · exact h.elim
  | zr h =>
    rcases A with _ | ⟨x, y⟩
    · trivial
    · exact h.elim
  | op h => exact ⟨h.1, bk_r F (op_c F h.2)⟩
theorem sum_self (A : Pt α) : Sum F A (negP F A) none := by
  rcases A with _ | ⟨x, y⟩
  · exact .zl trivial
  · exact .op ⟨F.refl _, by have h := bk_o F (F.refl y); exact op_c F h⟩
theorem on_neg {x y b : α} (h : F.Z (F.sub (F.mul y y) (F.add (F.mul (F.mul x x) x) b))) : F.Z (F.sub (F.mul (F.sub (F.int 0) y) (F.sub (F.int 0) y)) (F.add (F.mul (F.mul x x) x) b)) := F.Z_by (fun k_ => match k_ with | 0 => x | 1 => y | _ => b) (e := (.s (.m (.s (.n 0) (.v 1)) (.s (.n 0) (.v 1))) (.a (.m (.m (.v 0) (.v 0)) (.v 0)) (.v 2)))) (f := (.m (.n 1) (.s (.m (.v 1) (.v 1)) (.a (.m (.m (.v 0) (.v 0)) (.v 0)) (.v 2))))) (by decide +kernel) (F.zm' _ h)
theorem onP_neg {b : α} {A : Pt α} (h : OnP F b A) : OnP F b (negP F A) := by
  rcases A with _ | ⟨x, y⟩
  · trivial
  · exact on_neg F h
/-- (A + B) + C = A + (B + C). -/
theorem sum_assoc {b : α} (hb : ¬ F.Z b) {A B C D E L R : Pt α} (a : OnP F b A) (e : OnP F b B) (c : OnP F b C)
    (hD : Sum F A B D) (hE : Sum F B C E) (hL : Sum F D C L) (hR : Sum F A E R) : EqP F L R := by
  have r := fun X : Pt α => eqP_refl F X
  rcases A with _ | ⟨x1, y1⟩
  · exact eqP_trans F (sum_un F (sum_eq F (eqP_symm F (sum_nl F hD)) (r C) (r L) hL) hE) (sum_nl F hR)
  rcases B with _ | ⟨x2, y2⟩
  · exact sum_un F (sum_eq F (eqP_symm F (sum_nr F hD)) (sum_nl F hE) (r L) hL) hR
  rcases C with _ | ⟨x3, y3⟩
  · exact eqP_trans F (eqP_symm F (sum_nr F hL)) (sum_un F hD (sum_eq F (r _) (eqP_symm F (sum_nr F hE)) (r R) hR))
  rcases D with _ | ⟨x4, y4⟩
  · have h1 := sum_eq F (eqP_symm F (sum_op F hD)) (r _) (r _) hE
    have h2 := sum_back F hb c (onP_neg F a) (sum_comm F h1)
    exact eqP_trans F (eqP_symm F (sum_nl F hL)) (sum_un F (sum_eq F (neg_neg F _) (r _) (r _) h2) hR)
  rcases E with _ | ⟨x5, y5⟩
  · have h1 := sum_eq F (r _) (eqP_symm F (sum_op F hE)) (r L) hL
    exact eqP_trans F (sum_un F h1 (sum_comm F (sum_back F hb a e hD))) (sum_nr F hR)
  rcases L with _ | ⟨u, v⟩
  · have h1 := sum_eq F (neg_neg F _) (r _) (r _) (sum_neg F (sum_back F hb a e hD))
    have h2 := sum_un F (sum_eq F (r _) (sum_op F hL) (r _) h1) hE
    exact sum_un F (sum_self F _) (sum_eq F (r _) (eqP_symm F h2) (r R) hR)
  rcases R with _ | ⟨u', v'⟩
  · have h0 := sum_neg F (sum_back F hb c e (sum_comm F hE))
    have h1 := sum_comm F (sum_eq F (neg_neg F _) (r _) (r _) h0)
    have h2 := eqP_trans F (neg_eq F (eqP_symm F (sum_op F hR))) (neg_neg F _)
    have h3 := sum_un F hD (sum_eq F h2 (r _) (r _) h1)
    exact sum_un F hL (sum_eq F (eqP_symm F h3) (r _) (r _) (sum_comm F (sum_self F _)))
  cases hD with
  | sl oD sD xD yD =>
  cases hE with
  | sl oE sE xE yE =>
  cases hL with
  | sl oL sL xL yL =>
  cases hR with
  | sl oR sR xR yR =>
  exact br_all F sD sE xD yD xE yE oL sL oR sR xL yL xR yR
end
end Go.Proofs.YtmohopjblhgdiaaGreatDoor.Ec

/-
  Own text. Multiples of points: n A + m A = (n + m) A, m (n A) = (m n) A, n (A + B) = n A + n B, n (-A) = -(n A). In any field. Speaks of no program.
-/
namespace Go.Proofs.YtmohopjblhgdiaaGreatDoor.Ec
set_option linter.unusedVariables false
open Go Go.Proofs.YtmohopjblhgdiaaGreatDoor.Ring
section
variable {α : Type} (F : Fd α)
/-- C is n times A. -/
def Mult : Nat → Pt α → Pt α → Prop
  | 0, _, C => EqP F none C
  | n + 1, A, C => ∃ D, Mult n A D ∧ Sum F D A C
theorem mult_eq {n : Nat} {A A' C C' : Pt α} (a : EqP F A A') (c : EqP F C C') (h : Mult F n A C) : Mult F n A' C' := by
  induction n generalizing C C' with
  | zero => exact eqP_trans F h c
  | succ n ih =>
    obtain ⟨D, h1, h2⟩ := h
    exact ⟨D, ih (eqP_refl F D) h1, sum_eq F (eqP_refl F D) a c h2⟩
theorem mult_un {n : Nat} {A C C' : Pt α} (h : Mult F n A C) (k : Mult F n A C') : EqP F C C' := by
  induction n generalizing C C' with
  | zero => exact eqP_trans F (eqP_symm F h) k
  | succ n ih =>
    obtain ⟨D, h1, h2⟩ := h
    obtain ⟨E, k1, k2⟩ := k
    exact sum_un F (sum_eq F (ih h1 k1) (eqP_refl F A) (eqP_refl F C) h2) k2
theorem mult_on {b : α} {n : Nat} {A C : Pt α} (a : OnP F b A) (h : Mult F n A C) : OnP F b C := by
  induction n generalizing C with
  | zero => exact onP_eq F h trivial
  | succ n ih =>
    obtain ⟨D, h1, h2⟩ := h
    exact sum_on F (ih h1) a h2
/-- (A + B) + C = A + (B + C), handed on. -/
theorem assoc_l {b : α} (hb : ¬ F.Z b) {A B C D E R : Pt α} (a : OnP F b A) (e : OnP F b B) (c : OnP F b C)
    (hD : Sum F A B D) (hE : Sum F B C E) (hR : Sum F A E R) : Sum F D C R := by
  obtain ⟨L, hL, _⟩ := sum_ex F (sum_on F a e hD) c
  exact sum_eq F (eqP_refl F _) (eqP_refl F _) (sum_assoc F hb a e c hD hE hL hR) hL
theorem mult_add {b : α} (hb : ¬ F.Z b) {n m : Nat} {A D E C : Pt α} (a : OnP F b A) (hD : Mult F n A D) (hE : Mult F m A E) (h : Sum F D E C) : Mult F (n + m) A C := by
  induction m generalizing E C with
  | zero => exact mult_eq F (eqP_refl F A) (sum_nr F (sum_eq F (eqP_refl F D) (eqP_symm F hE) (eqP_refl F C) h)) hD
  | succ m ih =>
    obtain ⟨E', h1, h2⟩ := hE
    have d := mult_on F a hD
    have e := mult_on F a h1
    obtain ⟨G, h3, _⟩ := sum_ex F d e
    exact ⟨G, ih h1 h3, assoc_l F hb d e a h3 h2 h⟩
end
end Go.Proofs.YtmohopjblhgdiaaGreatDoor.Ec

/-
  Own text. The sum of two points as a function, on the curve or not; on the curve it is the sum. Multiples. In any field. Speaks of no program.
-/
namespace Go.Proofs.YtmohopjblhgdiaaGreatDoor.Ec
set_option linter.unusedVariables false
set_option linter.unusedSectionVars false
set_option maxRecDepth 100000
open Go Go.Proofs.YtmohopjblhgdiaaGreatDoor.Ring
section
variable {α : Type} (F : Fd α)
theorem ad_tc {i x1 y1 x2 y2 : α} (hi : F.Z (F.add (F.mul (F.mul (F.int 2) y1) i) (F.int (-1)))) (hy : F.Z (F.sub y1 y2)) (hx : F.Z (F.sub x1 x2)) : F.Z (F.sub (F.mul (F.mul (F.mul (F.int 3) (F.mul x1 x1)) i) (F.add y1 y2)) (F.add (F.add (F.mul x1 x1) (F.mul x1 x2)) (F.mul x2 x2))) := F.Z_by (fun k_ => match k_ with | 0 => i | 1 => x1 | 2 => y1 | 3 => x2 | 4 => y2 | _ => i) (e := (.s (.m (.m (.m (.n 3) (.m (.v 1) (.v 1))) (.v 0)) (.a (.v 2) (.v 4))) (.a (.a (.m (.v 1) (.v 1)) (.m (.v 1) (.v 3))) (.m (.v 3) (.v 3))))) (f := (.a (.a (.m (.m (.n 3) (.m (.v 1) (.v 1))) (.a (.m (.m (.n 2) (.v 2)) (.v 0)) (.n (-1)))) (.m (.m (.n (-1)) (.m (.m (.n 3) (.m (.v 1) (.v 1))) (.v 0))) (.s (.v 2) (.v 4)))) (.m (.a (.m (.n 2) (.v 1)) (.v 3)) (.s (.v 1) (.v 3))))) (by decide +kernel) (F.za (F.za (F.zm' _ hi) (F.zm' _ hy)) (F.zm' _ hx))
theorem ad_c3 {i x1 y1 x2 y2 : α} (hi : F.Z (F.add (F.mul (F.sub x2 x1) i) (F.int (-1)))) : F.Z (F.sub (F.sub y1 y2) (F.mul (F.mul (F.sub y2 y1) i) (F.sub x1 x2))) := F.Z_by (fun k_ => match k_ with | 0 => i | 1 => x1 | 2 => y1 | 3 => x2 | 4 => y2 | _ => i) (e := (.s (.s (.v 2) (.v 4)) (.m (.m (.s (.v 4) (.v 2)) (.v 0)) (.s (.v 1) (.v 3))))) (f := (.m (.m (.n (-1)) (.s (.v 2) (.v 4))) (.a (.m (.s (.v 3) (.v 1)) (.v 0)) (.n (-1))))) (by decide +kernel) (F.zm' _ hi)
theorem ad_2 {y1 y2 : α} (ho : F.Z (F.add y1 y2)) (hy : F.Z (F.sub y1 y2)) : F.Z (F.mul (F.int 2) y1) := F.Z_by (fun k_ => match k_ with | 0 => y1 | 1 => y1 | 2 => y1 | 3 => y1 | 4 => y2 | _ => y1) (e := (.m (.n 2) (.v 2))) (f := (.a (.m (.n 1) (.a (.v 2) (.v 4))) (.m (.n 1) (.s (.v 2) (.v 4))))) (by decide +kernel) (F.za (F.zm' _ ho) (F.zm' _ hy))
theorem ad_o {y1 y2 : α} (k : F.Z y1) (hy : F.Z (F.sub y1 y2)) : F.Z (F.add y1 y2) := F.Z_by (fun k_ => match k_ with | 0 => y1 | 1 => y1 | 2 => y1 | 3 => y1 | 4 => y2 | _ => y1) (e := (.a (.v 2) (.v 4))) (f := (.a (.m (.n 2) (.v 2)) (.m (.n (-1)) (.s (.v 2) (.v 4))))) (by decide +kernel) (F.za (F.zm' _ k) (F.zm' _ hy))
theorem ad_m {x1 x2 : α} (k : F.Z (F.sub x1 x2)) : F.Z (F.sub x2 x1) := F.Z_by (fun k_ => match k_ with | 0 => x1 | 1 => x1 | 2 => x1 | 3 => x2 | 4 => x1 | _ => x1) (e := (.s (.v 3) (.v 1))) (f := (.m (.n (-1)) (.s (.v 1) (.v 3)))) (by decide +kernel) (F.zm' _ k)
theorem inv_eq {a b : α} (h : F.eq a b) (ha : ¬ F.Z a) : F.eq (F.inv a) (F.inv b) := by
  have hb : ¬ F.Z b := fun k => ha (F.Z_of (F.symm h) k)
  have h1 : F.eq (F.mul a (F.inv a)) (F.int 1) := by
    have e : F.add (F.mul a (F.inv a)) (F.mul (F.int (-1)) (F.int 1)) = F.add (F.mul a (F.inv a)) (F.int (-1)) := F.eq_of (fun k_ => match k_ with | 0 => a | _ => F.inv a) (e := .s (.m (.v 0) (.v 1)) (.n 1)) (f := .a (.m (.v 0) (.v 1)) (.n (-1))) rfl rfl (by decide)
    rw [Fd.eq, e]
    exact F.zi ha
  have h2 : F.eq (F.mul b (F.inv b)) (F.int 1) := by
    have e : F.add (F.mul b (F.inv b)) (F.mul (F.int (-1)) (F.int 1)) = F.add (F.mul b (F.inv b)) (F.int (-1)) := F.eq_of (fun k_ => match k_ with | 0 => b | _ => F.inv b) (e := .s (.m (.v 0) (.v 1)) (.n 1)) (f := .a (.m (.v 0) (.v 1)) (.n (-1))) rfl rfl (by decide)
    rw [Fd.eq, e]
    exact F.zi hb
  refine F.cancel ha ?_
  rw [F.mul_comm (F.inv a), F.mul_comm (F.inv b)]
  exact F.trans h1 (F.trans (F.symm h2) (F.mul_eq (F.symm h) (F.refl _)))
def slT (x y : α) : α := F.mul (F.mul (F.int 3) (F.mul x x)) (F.inv (F.mul (F.int 2) y))
def slC (x1 y1 x2 y2 : α) : α := F.mul (F.sub y2 y1) (F.inv (F.sub x2 x1))
def trd (l x1 y1 x2 : α) : Pt α := some (Xs F l x1 x2, Ys F l x1 y1 (Xs F l x1 x2))
section
variable [DecidablePred F.Z]
/-- The document's sum. -/
def addP : Pt α → Pt α → Pt α
  | none, B => B
  | some a, none => some a
  | some (x1, y1), some (x2, y2) => if F.Z (F.sub x1 x2) then (if F.Z (F.sub y1 y2) ∧ ¬ F.Z y1 then trd F (slT F x1 y1) x1 y1 x2 else none) else trd F (slC F x1 y1 x2 y2) x1 y1 x2
def mulP : Nat → Pt α → Pt α
  | 0, _ => none
  | n + 1, A => addP F (mulP n A) A
theorem add_sum {b : α} {A B : Pt α} (a : OnP F b A) (e : OnP F b B) : Sum F A B (addP F A B) := by
  rcases A with _ | ⟨x1, y1⟩
  · exact .zl (eqP_refl F B)
  rcases B with _ | ⟨x2, y2⟩
  · exact .zr (eqP_refl F _)
  show Sum F _ _ (if F.Z (F.sub x1 x2) then (if F.Z (F.sub y1 y2) ∧ ¬ F.Z y1 then trd F (slT F x1 y1) x1 y1 x2 else none) else trd F (slC F x1 y1 x2 y2) x1 y1 x2)
  by_cases hx : F.Z (F.sub x1 x2)
  · rw [if_pos hx]
    by_cases hy : F.Z (F.sub y1 y2) ∧ ¬ F.Z y1
    · rw [if_pos hy]
      have h2 : ¬ F.Z (F.mul (F.int 2) y1) := fun k => (F.zd k).elim (nz_int F (by decide +kernel)) hy.2
      exact .sl (fun ho => h2 (ad_2 F ho.2 hy.1)) ⟨slope_t3 F hy.1 hx, ad_tc F (F.zi h2) hy.1 hx⟩ (F.refl _) (F.refl _)
    · rw [if_neg hy]
      refine .op ⟨hx, ?_⟩
      rcases F.zd (slope_y F a e hx) with h | h
      · exact ad_o F (Decidable.byContradiction fun k => hy ⟨h, k⟩) h
      · exact h
  · rw [if_neg hx]
    have h3 := ad_c3 (y1 := y1) (y2 := y2) F (F.zi (fun k => hx (ad_m F k)))
    exact .sl (fun ho => hx ho.1) ⟨h3, (F.zd (chord_z F a e h3)).resolve_right hx⟩ (F.refl _) (F.refl _)
theorem add_on {b : α} {A B : Pt α} (a : OnP F b A) (e : OnP F b B) : OnP F b (addP F A B) := sum_on F a e (add_sum F a e)
theorem trd_eq {l x1 y1 x2 l' x1' y1' x2' : α} (hl : F.eq l l') (h1 : F.eq x1 x1') (k1 : F.eq y1 y1') (h2 : F.eq x2 x2') : EqP F (trd F l x1 y1 x2) (trd F l' x1' y1' x2') :=
  ⟨Xs_eq F hl h1 h2, Ys_eq F hl h1 k1 (Xs_eq F hl h1 h2)⟩
theorem add_eq' {A B A' B' : Pt α} (a : EqP F A A') (e : EqP F B B') : EqP F (addP F A B) (addP F A' B') := by
  rcases A with _ | ⟨x1, y1⟩ <;> rcases A' with _ | ⟨u1, v1⟩
  · exact e
  · exact a.elim
  · exact a.elim
  rcases B with _ | ⟨x2, y2⟩ <;> rcases B' with _ | ⟨u2, v2⟩
  · exact a
  · exact e.elim
  · exact e.elim
  have dx := F.sub_eq a.1 e.1
  have dy := F.sub_eq a.2 e.2
  show EqP F (if F.Z (F.sub x1 x2) then (if F.Z (F.sub y1 y2) ∧ ¬ F.Z y1 then trd F (slT F x1 y1) x1 y1 x2 else none) else trd F (slC F x1 y1 x2 y2) x1 y1 x2) (if F.Z (F.sub u1 u2) then (if F.Z (F.sub v1 v2) ∧ ¬ F.Z v1 then trd F (slT F u1 v1) u1 v1 u2 else none) else trd F (slC F u1 v1 u2 v2) u1 v1 u2)
  by_cases hx : F.Z (F.sub x1 x2)
  · rw [if_pos hx, if_pos (F.Z_of dx hx)]
    by_cases hy : F.Z (F.sub y1 y2) ∧ ¬ F.Z y1
    · rw [if_pos hy, if_pos ⟨F.Z_of dy hy.1, fun k => hy.2 (F.Z_of (F.symm a.2) k)⟩]
      have h2 : ¬ F.Z (F.mul (F.int 2) y1) := fun k => (F.zd k).elim (nz_int F (by decide +kernel)) hy.2
      exact trd_eq F (F.mul_eq (F.mul_eq (F.refl _) (F.mul_eq a.1 a.1)) (inv_eq F (F.mul_eq (F.refl _) a.2) h2)) a.1 a.2 e.1
    · rw [if_neg hy, if_neg (fun k => hy ⟨F.Z_of (F.symm dy) k.1, fun h => k.2 (F.Z_of a.2 h)⟩)]
      trivial
  · rw [if_neg hx, if_neg (fun k => hx (F.Z_of (F.symm dx) k))]
    exact trd_eq F (F.mul_eq (F.sub_eq e.2 a.2) (inv_eq F (F.sub_eq e.1 a.1) (fun k => hx (ad_m F k)))) a.1 a.2 e.1
theorem mulP_mult {b : α} {A : Pt α} (a : OnP F b A) : ∀ n, Mult F n A (mulP F n A) ∧ OnP F b (mulP F n A)
  | 0 => ⟨trivial, trivial⟩
  | n + 1 => by
    obtain ⟨h, k⟩ := mulP_mult a n
    exact ⟨⟨_, h, add_sum F k a⟩, add_on F k a⟩
theorem mulP_of {b : α} {A C : Pt α} (a : OnP F b A) {n : Nat} (h : Mult F n A C) : EqP F C (mulP F n A) := mult_un F h (mulP_mult F a n).1
end
end
end Go.Proofs.YtmohopjblhgdiaaGreatDoor.Ec

/-
  Own text. Points as fractions: a double, a sum with a point, as the document's answer reckons them. In any field. Speaks of no program.
-/
namespace Go.Proofs.YtmohopjblhgdiaaGreatDoor.Ec
set_option linter.unusedVariables false
set_option maxRecDepth 100000
open Go Go.Proofs.YtmohopjblhgdiaaGreatDoor.Ring
section
variable {α : Type} (F : Fd α)
def twX (X Y : α) : α := (F.sub (F.mul (F.mul (F.int 3) (F.mul X X)) (F.mul (F.int 3) (F.mul X X))) (F.add (F.mul (F.int 4) (F.mul X (F.mul Y Y))) (F.mul (F.int 4) (F.mul X (F.mul Y Y)))))
def twY (X Y : α) : α := (F.sub (F.mul (F.mul (F.int 3) (F.mul X X)) (F.sub (F.mul (F.int 4) (F.mul X (F.mul Y Y))) (F.sub (F.mul (F.mul (F.int 3) (F.mul X X)) (F.mul (F.int 3) (F.mul X X))) (F.add (F.mul (F.int 4) (F.mul X (F.mul Y Y))) (F.mul (F.int 4) (F.mul X (F.mul Y Y))))))) (F.mul (F.int 8) (F.mul (F.mul Y Y) (F.mul Y Y))))
def twZ (Y Z : α) : α := (F.mul (F.int 2) (F.mul Y Z))
def plH (X Z x2 : α) : α := (F.sub (F.mul x2 (F.mul Z Z)) X)
def plR (Y Z y2 : α) : α := (F.sub (F.mul y2 (F.mul (F.mul Z Z) Z)) Y)
def plX (X Y Z x2 y2 : α) : α := (F.sub (F.sub (F.mul (F.sub (F.mul y2 (F.mul (F.mul Z Z) Z)) Y) (F.sub (F.mul y2 (F.mul (F.mul Z Z) Z)) Y)) (F.mul (F.mul (F.sub (F.mul x2 (F.mul Z Z)) X) (F.sub (F.mul x2 (F.mul Z Z)) X)) (F.sub (F.mul x2 (F.mul Z Z)) X))) (F.add (F.mul X (F.mul (F.sub (F.mul x2 (F.mul Z Z)) X) (F.sub (F.mul x2 (F.mul Z Z)) X))) (F.mul X (F.mul (F.sub (F.mul x2 (F.mul Z Z)) X) (F.sub (F.mul x2 (F.mul Z Z)) X)))))
def plY (X Y Z x2 y2 : α) : α := (F.sub (F.mul (F.sub (F.mul y2 (F.mul (F.mul Z Z) Z)) Y) (F.sub (F.mul X (F.mul (F.sub (F.mul x2 (F.mul Z Z)) X) (F.sub (F.mul x2 (F.mul Z Z)) X))) (F.sub (F.sub (F.mul (F.sub (F.mul y2 (F.mul (F.mul Z Z) Z)) Y) (F.sub (F.mul y2 (F.mul (F.mul Z Z) Z)) Y)) (F.mul (F.mul (F.sub (F.mul x2 (F.mul Z Z)) X) (F.sub (F.mul x2 (F.mul Z Z)) X)) (F.sub (F.mul x2 (F.mul Z Z)) X))) (F.add (F.mul X (F.mul (F.sub (F.mul x2 (F.mul Z Z)) X) (F.sub (F.mul x2 (F.mul Z Z)) X))) (F.mul X (F.mul (F.sub (F.mul x2 (F.mul Z Z)) X) (F.sub (F.mul x2 (F.mul Z Z)) X))))))) (F.mul Y (F.mul (F.mul (F.sub (F.mul x2 (F.mul Z Z)) X) (F.sub (F.mul x2 (F.mul Z Z)) X)) (F.sub (F.mul x2 (F.mul Z Z)) X))))
def plZ (X Z x2 : α) : α := (F.mul Z (F.sub (F.mul x2 (F.mul Z Z)) X))
/-- What a fraction is. -/
def Rep (X Y Z : α) : Pt α → Prop
  | none => F.Z Z
  | some (x, y) => ¬ F.Z Z ∧ F.eq X (F.mul x (F.mul Z Z)) ∧ F.eq Y (F.mul y (F.mul (F.mul Z Z) Z))
end
end Go.Proofs.YtmohopjblhgdiaaGreatDoor.Ec

/-
  Own text. Points as fractions: a sum with a point, whatever the points; doubles and sums of multiples. In any field. Speaks of no program.
-/
namespace Go.Proofs.YtmohopjblhgdiaaGreatDoor.Ec
set_option linter.unusedVariables false
set_option linter.unusedSectionVars false
set_option maxRecDepth 100000
open Go Go.Proofs.YtmohopjblhgdiaaGreatDoor.Ring
section
variable {α : Type} (F : Fd α)
section
variable [DecidablePred F.Z]
/-- A fraction and a point. -/
def pl3 (X Y Z x2 y2 : α) : α × α × α :=
  if F.Z Z then (x2, y2, F.int 1)
  else if F.Z (plH F X Z x2) then (if F.Z (plR F Y Z y2) then (twX F X Y, twY F X Y, twZ F Y Z) else (F.int 0, F.int 0, F.int 0))
  else (plX F X Y Z x2 y2, plY F X Y Z x2 y2, plZ F X Z x2)
/-- What a fraction is, written out. -/
def normP (X Y Z : α) : Pt α := if F.Z Z then none else some (F.mul X (F.mul (F.inv Z) (F.inv Z)), F.mul Y (F.mul (F.mul (F.inv Z) (F.inv Z)) (F.inv Z)))
end
end
end Go.Proofs.YtmohopjblhgdiaaGreatDoor.Ec

