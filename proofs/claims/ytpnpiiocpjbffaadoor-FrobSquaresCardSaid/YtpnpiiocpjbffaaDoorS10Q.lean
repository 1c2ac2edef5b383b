/-
  Own text. Pow of the document's answer by the reckoner.
-/
import Derived.Test.YtpnpiiocpjbffaaDoorS10P
namespace Go.Proofs.YtpnpiiocpjbffaaDoor.S10Q
set_option linter.unusedVariables false
set_option linter.unusedSimpArgs false
open Go Go.RowKit Go.Proofs.YtpnpiiocpjbffaaDoor.Reg Go.Proofs.YtpnpiiocpjbffaaDoor.Base Go.Proofs.YtpnpiiocpjbffaaDoor.Limb Go.Proofs.YtpnpiiocpjbffaaDoor.Sx Go.Proofs.YtpnpiiocpjbffaaDoor.Fp Go.Proofs.YtpnpiiocpjbffaaDoor.Fp2 Go.Proofs.YtpnpiiocpjbffaaDoor.Fp6 Go.Proofs.YtpnpiiocpjbffaaDoor.Fp12 Go.Proofs.YtpnpiiocpjbffaaDoor.S10P

def LQ : List (Fact Tryd.prog GlobD) := S10.qOne.fact (.con Tryd.func50 rfl (by decide) S10.qOne) :: S10.L1
def XQ0 : Cx := .of [] (tb LQ)
theorem XQ0_ok : CxOk Tryd.prog XQ0 GlobD := cx_ok LQ trivial (by kernel_rfl)
abbrev XQ (A : Option Addr) (n : Nat) (l : List Int) (H : List (Nat × Ev)) : Cx := XQ0.sym (Dp A n l) H
theorem XQ_ok {A : Option Addr} {n : Nat} {l : List Int} {B : Nat} (hw : Words l) (H : List (Nat × Ev)) : CxB Tryd.prog (XQ A n l H) (GP A n l B) :=
  XQ0_ok.toCxB.sym (fun u h => h.1.1) (fun A' n' l' h => by
    obtain ⟨rfl, rfl, rfl⟩ := h
    exact ⟨hw, B, fun u hu => ⟨hu.1.2, hu.2⟩⟩) H
section
variable (a o : List Int) (b : Bool) (A : Option Addr) (n c : Nat) (l : List Int)
def b3 : List Bk := [(30, [.nums 72 a]), (30, [.nums 72 Z72]), (30, [.nums 72 o])]
def q1 (k : Nat) : St := ⟨mkSl 36 [(1, .ext A n c l), (2, .ptr 0 0), (4, .ptr 1 0), (5, .ptr 2 0), (6, .val (.bool b)), (7, .num .i64 (64 * (n : Int) - 1 - k))], b3 a o⟩
def q1e : St := ⟨mkSl 36 [(4, .ptr 1 0), (5, .ptr 2 0)], b3 a o⟩
end
section
variable {a o o' : List Int} {A : Option Addr} {n c : Nat} {l : List Int} {B S : Nat} {w : World}
theorem does (hw : Words l) (hG : ∀ u, RowKit.Below S w u → GP A n l B u) (c : Code) : Does Tryd.prog S 0 w c (evalC Tryd.prog (XQ A n l []) 0 9 c) := code_ok (XQ_ok hw []) hG c (fun _ _ _ h => by rw [hooked_nil] at h; cases h)
/-- A round's place, word, from there on. -/
abbrev ji (n k : Nat) : Int := 64 * (n : Int) - 1 - k
abbrev wd_ (n : Nat) (l : List Int) (k : Nat) : Int := nth l ((ji n k / 64).toNat * 1) / 2 ^ (ji n k % 64).toNat
theorem wd_in (hw : Words l) (k : Nat) : 0 ≤ wd_ n l k ∧ wd_ n l k ≤ 18446744073709551615 := by
  have h := hw ((ji n k / 64).toNat * 1)
  have h2 : wd_ n l k ≤ nth l ((ji n k / 64).toNat * 1) := Int.ediv_le_self _ h.1
  exact ⟨Int.ediv_nonneg h.1 (Int.le_of_lt (Int.pow_pos (by decide))), by omega⟩
def ey (n : Nat) (l : List Int) (k : Nat) : Nat := (num l / tp (64 * n - k)).toNat
theorem ey_0 (hw : Words l) (hl : l.length = n) : ey n l 0 = 0 := by
  have hb := num_bounds hw
  rw [hl] at hb
  rw [ey, show 64 * n - 0 = 64 * n by omega, tp_wp, Int.ediv_eq_zero_of_lt hb.1 hb.2]
  rfl
theorem ey_n : ey n l (64 * n) = (num l).toNat := by rw [ey, Nat.sub_self, tp_zero, Int.ediv_one]
theorem ey_more {k : Nat} (hk : k < 64 * n) (hw : Words l) : ey n l (k + 1) = 2 * ey n l k + (wd_ n l k % 2).toNat := by
  have h := num_shift (num l) (64 * n - (k + 1))
  rw [num_bit hw, show 64 * n - (k + 1) + 1 = 64 * n - k by omega] at h
  have e : bitL l (64 * n - (k + 1)) = wd_ n l k % 2 := by
    show nth l ((64 * n - (k + 1)) / 64) / 2 ^ ((64 * n - (k + 1)) % 64) % 2 = nth l ((ji n k / 64).toNat * 1) / 2 ^ (ji n k % 64).toNat % 2
    rw [show (ji n k / 64).toNat * 1 = (64 * n - (k + 1)) / 64 by simp only [ji]; omega, show (ji n k % 64).toNat = (64 * n - (k + 1)) % 64 by simp only [ji]; omega]
  rw [e] at h
  have h0 : 0 ≤ num l / tp (64 * n - k) := Int.ediv_nonneg (num_bounds hw).1 (Int.le_of_lt (tp_pos _))
  have h1 := Int.emod_nonneg (wd_ n l k) (show (2 : Int) ≠ 0 by decide)
  rw [ey, ey, h]
  omega
set_option maxRecDepth 100000 in
theorem rndff {k : Nat} (hk : k < 64 * n) (hn : n ≤ 10000) (h2 : qb false (bits .and .u64 (wd_ n l k) 1 = 1)) (hrow : o = o') (hw : Words l) (hG : ∀ u, RowKit.Below S w u → GP A n l B u) : Goes Tryd.prog S 0 w (lpc Tryd.f32 0) (q1 a o false A n c l k) .nrm (q1 a o' false A n c l (k + 1)) := by
  have hd := wd_in (n := n) hw k
  have hand := and_one hd.1 hd.2
  exact (does hw hG _).goes [true, false] (ps := [A = A ∧ n = n ∧ c = c ∧ l = l, AV.val (.bool false) = AV.val (.bool false), 64 * (n : Int) - 1 - k - 1 = 64 * (n : Int) - 1 - ((k + 1 : Nat) : Int), a = a, Z72 = Z72, o = o', qb true (0 ≤ ji n k), 0 ≤ ji n k ∧ (0 : Int) < 64, IntKind.i64.wrap (ji n k / 64) = ji n k / 64, 0 ≤ ji n k / 64 ∧ ji n k / 64 < (n : Int), Dp A n l A (n * 1) l ∧ 0 < 1, (ji n k / 64).toNat * 1 < n * 1, Dp A n l A (n * 1) l ∧ 0 < n * 1, 0 ≤ ji n k ∧ (0 : Int) < 64, True, IntKind.u64.wrap (ji n k % 64) = ji n k % 64, rng .u64 (ji n k % 64), 0 ≤ ji n k % 64 ∧ ji n k % 64 < ((64 : Nat) : Int), rng .u64 (wd_ n l k), rng .u64 (bits .and .u64 (wd_ n l k) 1), qb false (bits .and .u64 (wd_ n l k) 1 = 1), IntKind.i64.wrap (64 * (n : Int) - 1 - k - 1) = 64 * (n : Int) - 1 - k - 1]) (by kernel_rfl) (hp (⟨rfl, rfl, rfl, rfl⟩) (hp (rfl) (hp (by omega) (hp (rfl) (hp (rfl) (hp (hrow) (hp ((by simp only [ji]; omega : 0 ≤ ji n k)) (hp (by simp only [ji]; omega) (hp (IntWalk.i64_in _ (by simp only [ji]; omega)) (hp (by simp only [ji]; omega) (hp (⟨⟨rfl, Nat.mul_one _, rfl⟩, by decide⟩) (hp (by simp only [ji]; omega) (hp (⟨⟨rfl, Nat.mul_one _, rfl⟩, by omega⟩) (hp (by simp only [ji]; omega) (hp (trivial) (hp (IntWalk.u64_in _ (by simp only [ji]; omega)) (hp ((by simp only [ji]; omega : 0 ≤ ji n k % 64 ∧ ji n k % 64 < 18446744073709551616)) (hp (by simp only [ji]; omega) (hp ((by omega : 0 ≤ wd_ n l k ∧ wd_ n l k < 18446744073709551616)) (hp (hand ▸ (by omega : 0 ≤ wd_ n l k % 2 ∧ wd_ n l k % 2 < 18446744073709551616)) (hp (h2) (hp (IntWalk.i64_in _ (by omega)) trivial)))))))))))))))))))))) (by kernel_rfl)
set_option maxRecDepth 100000 in
theorem rndft {k : Nat} (hk : k < 64 * n) (hn : n ≤ 10000) (h2 : qb true (bits .and .u64 (wd_ n l k) 1 = 1)) (hrow : F12 (km (v12 o) (v12 a)) = o') (hw : Words l) (hG : ∀ u, RowKit.Below S w u → GP A n l B u) : Goes Tryd.prog S 0 w (lpc Tryd.f32 0) (q1 a o false A n c l k) .nrm (q1 a o' true A n c l (k + 1)) := by
  have hd := wd_in (n := n) hw k
  have hand := and_one hd.1 hd.2
  exact (does hw hG _).goes [true, true] (ps := [A = A ∧ n = n ∧ c = c ∧ l = l, AV.val (.bool true) = AV.val (.bool true), 64 * (n : Int) - 1 - k - 1 = 64 * (n : Int) - 1 - ((k + 1 : Nat) : Int), a = a, Z72 = Z72, F12 (km (v12 o) (v12 a)) = o', qb true (0 ≤ ji n k), 0 ≤ ji n k ∧ (0 : Int) < 64, IntKind.i64.wrap (ji n k / 64) = ji n k / 64, 0 ≤ ji n k / 64 ∧ ji n k / 64 < (n : Int), Dp A n l A (n * 1) l ∧ 0 < 1, (ji n k / 64).toNat * 1 < n * 1, Dp A n l A (n * 1) l ∧ 0 < n * 1, 0 ≤ ji n k ∧ (0 : Int) < 64, True, IntKind.u64.wrap (ji n k % 64) = ji n k % 64, rng .u64 (ji n k % 64), 0 ≤ ji n k % 64 ∧ ji n k % 64 < ((64 : Nat) : Int), rng .u64 (wd_ n l k), rng .u64 (bits .and .u64 (wd_ n l k) 1), qb true (bits .and .u64 (wd_ n l k) 1 = 1), IntKind.i64.wrap (64 * (n : Int) - 1 - k - 1) = 64 * (n : Int) - 1 - k - 1]) (by kernel_rfl) (hp (⟨rfl, rfl, rfl, rfl⟩) (hp (rfl) (hp (by omega) (hp (rfl) (hp (rfl) (hp (hrow) (hp ((by simp only [ji]; omega : 0 ≤ ji n k)) (hp (by simp only [ji]; omega) (hp (IntWalk.i64_in _ (by simp only [ji]; omega)) (hp (by simp only [ji]; omega) (hp (⟨⟨rfl, Nat.mul_one _, rfl⟩, by decide⟩) (hp (by simp only [ji]; omega) (hp (⟨⟨rfl, Nat.mul_one _, rfl⟩, by omega⟩) (hp (by simp only [ji]; omega) (hp (trivial) (hp (IntWalk.u64_in _ (by simp only [ji]; omega)) (hp ((by simp only [ji]; omega : 0 ≤ ji n k % 64 ∧ ji n k % 64 < 18446744073709551616)) (hp (by simp only [ji]; omega) (hp ((by omega : 0 ≤ wd_ n l k ∧ wd_ n l k < 18446744073709551616)) (hp (hand ▸ (by omega : 0 ≤ wd_ n l k % 2 ∧ wd_ n l k % 2 < 18446744073709551616)) (hp (h2) (hp (IntWalk.i64_in _ (by omega)) trivial)))))))))))))))))))))) (by kernel_rfl)
set_option maxRecDepth 100000 in
theorem rndtf {k : Nat} (hk : k < 64 * n) (hn : n ≤ 10000) (h2 : qb false (bits .and .u64 (wd_ n l k) 1 = 1)) (hrow : F12 (km (v12 o) (v12 o)) = o') (hw : Words l) (hG : ∀ u, RowKit.Below S w u → GP A n l B u) : Goes Tryd.prog S 0 w (lpc Tryd.f32 0) (q1 a o true A n c l k) .nrm (q1 a o' true A n c l (k + 1)) := by
  have hd := wd_in (n := n) hw k
  have hand := and_one hd.1 hd.2
  exact (does hw hG _).goes [true, false] (ps := [A = A ∧ n = n ∧ c = c ∧ l = l, AV.val (.bool true) = AV.val (.bool true), 64 * (n : Int) - 1 - k - 1 = 64 * (n : Int) - 1 - ((k + 1 : Nat) : Int), a = a, Z72 = Z72, F12 (km (v12 o) (v12 o)) = o', qb true (0 ≤ ji n k), 0 ≤ ji n k ∧ (0 : Int) < 64, IntKind.i64.wrap (ji n k / 64) = ji n k / 64, 0 ≤ ji n k / 64 ∧ ji n k / 64 < (n : Int), Dp A n l A (n * 1) l ∧ 0 < 1, (ji n k / 64).toNat * 1 < n * 1, Dp A n l A (n * 1) l ∧ 0 < n * 1, 0 ≤ ji n k ∧ (0 : Int) < 64, True, IntKind.u64.wrap (ji n k % 64) = ji n k % 64, rng .u64 (ji n k % 64), 0 ≤ ji n k % 64 ∧ ji n k % 64 < ((64 : Nat) : Int), rng .u64 (wd_ n l k), rng .u64 (bits .and .u64 (wd_ n l k) 1), qb false (bits .and .u64 (wd_ n l k) 1 = 1), IntKind.i64.wrap (64 * (n : Int) - 1 - k - 1) = 64 * (n : Int) - 1 - k - 1]) (by kernel_rfl) (hp (⟨rfl, rfl, rfl, rfl⟩) (hp (rfl) (hp (by omega) (hp (rfl) (hp (rfl) (hp (hrow) (hp ((by simp only [ji]; omega : 0 ≤ ji n k)) (hp (by simp only [ji]; omega) (hp (IntWalk.i64_in _ (by simp only [ji]; omega)) (hp (by simp only [ji]; omega) (hp (⟨⟨rfl, Nat.mul_one _, rfl⟩, by decide⟩) (hp (by simp only [ji]; omega) (hp (⟨⟨rfl, Nat.mul_one _, rfl⟩, by omega⟩) (hp (by simp only [ji]; omega) (hp (trivial) (hp (IntWalk.u64_in _ (by simp only [ji]; omega)) (hp ((by simp only [ji]; omega : 0 ≤ ji n k % 64 ∧ ji n k % 64 < 18446744073709551616)) (hp (by simp only [ji]; omega) (hp ((by omega : 0 ≤ wd_ n l k ∧ wd_ n l k < 18446744073709551616)) (hp (hand ▸ (by omega : 0 ≤ wd_ n l k % 2 ∧ wd_ n l k % 2 < 18446744073709551616)) (hp (h2) (hp (IntWalk.i64_in _ (by omega)) trivial)))))))))))))))))))))) (by kernel_rfl)
set_option maxRecDepth 100000 in
theorem rndtt {k : Nat} (hk : k < 64 * n) (hn : n ≤ 10000) (h2 : qb true (bits .and .u64 (wd_ n l k) 1 = 1)) (hrow : F12 (km (v12 (F12 (km (v12 o) (v12 o)))) (v12 a)) = o') (hw : Words l) (hG : ∀ u, RowKit.Below S w u → GP A n l B u) : Goes Tryd.prog S 0 w (lpc Tryd.f32 0) (q1 a o true A n c l k) .nrm (q1 a o' true A n c l (k + 1)) := by
  have hd := wd_in (n := n) hw k
  have hand := and_one hd.1 hd.2
  exact (does hw hG _).goes [true, true] (ps := [A = A ∧ n = n ∧ c = c ∧ l = l, AV.val (.bool true) = AV.val (.bool true), 64 * (n : Int) - 1 - k - 1 = 64 * (n : Int) - 1 - ((k + 1 : Nat) : Int), a = a, Z72 = Z72, F12 (km (v12 (F12 (km (v12 o) (v12 o)))) (v12 a)) = o', qb true (0 ≤ ji n k), 0 ≤ ji n k ∧ (0 : Int) < 64, IntKind.i64.wrap (ji n k / 64) = ji n k / 64, 0 ≤ ji n k / 64 ∧ ji n k / 64 < (n : Int), Dp A n l A (n * 1) l ∧ 0 < 1, (ji n k / 64).toNat * 1 < n * 1, Dp A n l A (n * 1) l ∧ 0 < n * 1, 0 ≤ ji n k ∧ (0 : Int) < 64, True, IntKind.u64.wrap (ji n k % 64) = ji n k % 64, rng .u64 (ji n k % 64), 0 ≤ ji n k % 64 ∧ ji n k % 64 < ((64 : Nat) : Int), rng .u64 (wd_ n l k), rng .u64 (bits .and .u64 (wd_ n l k) 1), qb true (bits .and .u64 (wd_ n l k) 1 = 1), IntKind.i64.wrap (64 * (n : Int) - 1 - k - 1) = 64 * (n : Int) - 1 - k - 1]) (by kernel_rfl) (hp (⟨rfl, rfl, rfl, rfl⟩) (hp (rfl) (hp (by omega) (hp (rfl) (hp (rfl) (hp (hrow) (hp ((by simp only [ji]; omega : 0 ≤ ji n k)) (hp (by simp only [ji]; omega) (hp (IntWalk.i64_in _ (by simp only [ji]; omega)) (hp (by simp only [ji]; omega) (hp (⟨⟨rfl, Nat.mul_one _, rfl⟩, by decide⟩) (hp (by simp only [ji]; omega) (hp (⟨⟨rfl, Nat.mul_one _, rfl⟩, by omega⟩) (hp (by simp only [ji]; omega) (hp (trivial) (hp (IntWalk.u64_in _ (by simp only [ji]; omega)) (hp ((by simp only [ji]; omega : 0 ≤ ji n k % 64 ∧ ji n k % 64 < 18446744073709551616)) (hp (by simp only [ji]; omega) (hp ((by omega : 0 ≤ wd_ n l k ∧ wd_ n l k < 18446744073709551616)) (hp (hand ▸ (by omega : 0 ≤ wd_ n l k % 2 ∧ wd_ n l k % 2 < 18446744073709551616)) (hp (h2) (hp (IntWalk.i64_in _ (by omega)) trivial)))))))))))))))))))))) (by kernel_rfl)
set_option maxRecDepth 100000 in
theorem endf (hw : Words l) (hG : ∀ u, RowKit.Below S w u → GP A n l B u) : Goes Tryd.prog S 0 w (lpc Tryd.f32 0) (q1 a o false A n c l (64 * n)) (.ext 0) (q1e a o) :=
  (does hw hG _).goes [false] (ps := [a = a, Z72 = Z72, o = o, qb false (0 ≤ ji n (64 * n))]) (by kernel_rfl) (hp (rfl) (hp (rfl) (hp (rfl) (hp ((by simp only [ji]; omega : ¬ (0 ≤ ji n (64 * n)))) trivial)))) (by kernel_rfl)
set_option maxRecDepth 100000 in
theorem endt (hw : Words l) (hG : ∀ u, RowKit.Below S w u → GP A n l B u) : Goes Tryd.prog S 0 w (lpc Tryd.f32 0) (q1 a o true A n c l (64 * n)) (.ext 0) (q1e a o) :=
  (does hw hG _).goes [false] (ps := [a = a, Z72 = Z72, o = o, qb false (0 ≤ ji n (64 * n))]) (by kernel_rfl) (hp (rfl) (hp (rfl) (hp (rfl) (hp ((by simp only [ji]; omega : ¬ (0 ≤ ji n (64 * n)))) trivial)))) (by kernel_rfl)
def qs (a : List Int) (A : Option Addr) (n c : Nat) (l : List Int) (k : Nat) : St := if ey n l k = 0 then q1 a O72 false A n c l k else q1 a (F12 (kp (v12 a) (ey n l k))) true A n c l k
theorem kp_1 (a : List Int) : F12 (km (v12 O72) (v12 a)) = F12 (kp (v12 a) 1) := by
  have := kp_more a 0
  rw [show kp (v12 a) 0 = k1 from rfl, F12_one] at this
  exact this
theorem loop (hn : n ≤ 10000) (hl : l.length = n) (hw : Words l) (hG : ∀ u, RowKit.Below S w u → GP A n l B u) : Goes Tryd.prog S 0 w (.block 0 (.loop (lpc Tryd.f32 0))) (q1 a O72 false A n c l 0) .nrm (q1e a (F12 (kp (v12 a) (num l).toNat))) := by
  have h0 : q1 a O72 false A n c l 0 = qs a A n c l 0 := by rw [qs, if_pos (ey_0 hw hl)]
  rw [h0]
  refine .loop (n := 64 * n) (qs a A n c l) (fun k hk => ?_) ?_
  · have hd := wd_in (n := n) hw k
    have hand := and_one hd.1 hd.2
    have hm := ey_more hk hw
    rw [qs, qs]
    by_cases hx : ey n l k = 0
    · rw [if_pos hx]
      by_cases hb : wd_ n l k % 2 = 1
      · rw [if_neg (by omega)]
        exact rndft hk hn (by rw [hand]; exact hb) (by rw [hm, hx, hb]; exact kp_1 a) hw hG
      · rw [if_pos (by omega)]
        exact rndff hk hn (by rw [hand]; exact hb) rfl hw hG
    · rw [if_neg hx, if_neg (by omega)]
      by_cases hb : wd_ n l k % 2 = 1
      · exact rndtt hk hn (by rw [hand]; exact hb) (by rw [kp_dbl, kp_more, hm, hb]; rfl) hw hG
      · exact rndtf hk hn (by rw [hand]; exact hb) (by rw [kp_dbl, hm, show wd_ n l k % 2 = 0 by omega]; rfl) hw hG
  · rw [qs]
    by_cases hx : ey n l (64 * n) = 0
    · rw [if_pos hx, ← ey_n (n := n), hx, show kp (v12 a) 0 = k1 from rfl, F12_one]
      exact endf hw hG
    · rw [if_neg hx, ey_n]
      exact endt hw hG
end
theorem blk0 : blkc Tryd.f32 0 = .loop (lpc Tryd.f32 0) := by kernel_rfl
set_option maxRecDepth 100000 in
theorem qPow (a : List Int) (ha : Nm 72 a) (A : Option Addr) (n c : Nat) (l : List Int) (B : Nat) (w : World) (hG0 : GlobD w) (hr : Rd w B A n .u64 l) (hw : Words l) (hB : B ≤ w.heap.size) (hn : n ≤ 10000) : Calls Tryd.prog 32 #[.agg (vals .u64 a), .slice A n c] w fun e w' => e = .returned (.agg (vals .u64 (F12 (kp (v12 a) (num l).toNat)))) ∧ RowKit.Below w.heap.size w w' := by
  have hG : ∀ u, RowKit.Below w.heap.size w u → GP A n l B u := fun u hu => GP.keep ⟨⟨hG0, hB⟩, hr⟩ hu
  have hk : AllH Tryd.prog w.heap.size 0 w [(0, blkc Tryd.f32 0, hookEv (q1 a O72 false A n c l 0) (q1e a (F12 (kp (v12 a) (num l).toNat))))] := ⟨by rw [blk0]; exact (loop hn hr.len hw hG).does (by kernel_rfl), trivial⟩
  have he : evalF Tryd.prog (XQ A n l [(0, hookEv (q1 a O72 false A n c l 0) (q1e a (F12 (kp (v12 a) (num l).toNat))))]) 0 9 Tryd.f32 [W 72 a, .ext A n c l] [] [] = some ([.agg [.nums 72 (F12 (kp (v12 a) (num l).toNat))]], [IntKind.i64.wrap (64 * (n : Int)) = 64 * (n : Int), IntKind.i64.wrap (64 * (n : Int) - 1) = 64 * (n : Int) - 1, A = A ∧ n = n ∧ c = c ∧ l = l, AV.val (.bool false) = AV.val (.bool false), 64 * (n : Int) - 1 = 64 * (n : Int) - 1 - ((0 : Nat) : Int), a = a, Z72 = Z72, O72 = O72]) := by kernel_rfl
  have h := fn_okH (gs := []) (w := w) (XQ_ok (B := B) hw [(0, hookEv (q1 a O72 false A n c l 0) (q1e a (F12 (kp (v12 a) (num l).toNat))))]) (fn_hooks (by kernel_rfl) hk) Tryd.func32 he (hp (IntWalk.i64_in _ (by omega)) (hp (IntWalk.i64_in _ (by omega)) (hp (⟨rfl, rfl, rfl, rfl⟩) (hp (rfl) (hp (by omega) (hp (rfl) (hp (rfl) (hp (rfl) trivial)))))))) rfl rfl (fun v hv => by
    rcases List.mem_cons.1 hv with rfl | hv
    · exact w_ok ha _
    · rcases List.mem_cons.1 hv with rfl | hv
      · trivial
      · cases hv) hG (fun k t r h => by simp at h)
  simp only [List.map_cons, List.map_nil, w_den] at h
  exact h.mono fun e w' ⟨v, hv, e1, _, e2⟩ => by
    obtain rfl := List.mem_singleton.1 hv
    exact ⟨by rw [e1, w_den], e2⟩
end Go.Proofs.YtpnpiiocpjbffaaDoor.S10Q
