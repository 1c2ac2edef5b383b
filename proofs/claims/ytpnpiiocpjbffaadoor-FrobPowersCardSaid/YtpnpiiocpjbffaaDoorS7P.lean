/-
  Own text. Pow of layer 10's landed package by the reckoner.
-/
import Derived.Test.YtpnpiiocpjbffaaDoorS7
import Derived.Test.YtpnpiiocpjbffaaDoorFp12Lem
import Derived.Test.YtpnpiiocpjbffaaDoorMSx
namespace Go.Proofs.YtpnpiiocpjbffaaDoor.S7P
set_option linter.unusedVariables false
set_option linter.unusedSimpArgs false
open Go Go.RowKit Go.Proofs.YtpnpiiocpjbffaaDoor.Reg Go.Proofs.YtpnpiiocpjbffaaDoor.Base Go.Proofs.YtpnpiiocpjbffaaDoor.Limb Go.Proofs.YtpnpiiocpjbffaaDoor.Sx Go.Proofs.YtpnpiiocpjbffaaDoor.Fp Go.Proofs.YtpnpiiocpjbffaaDoor.Fp2 Go.Proofs.YtpnpiiocpjbffaaDoor.Fp6 Go.Proofs.YtpnpiiocpjbffaaDoor.Fp12

def O12 : List Int := [1, 0, 0, 0, 0, 0] ++ List.replicate 6 0
theorem Fo_one : F2 (1, 0) = O12 := by decide +kernel
theorem gw_dbl (p : G) (x : Nat) : F2 (gm (v2 (F2 (gp p x))) (v2 (F2 (gp p x)))) = F2 (gp p (2 * x)) := by
  rw [show 2 * x = x + x by omega, gp_add]
  exact F2_eq (gm_congr (v2_F2 _) (v2_F2 _))
theorem gw_more (a : List Int) (x : Nat) : F2 (gm (v2 (F2 (gp (v2 a) x))) (v2 a)) = F2 (gp (v2 a) (x + 1)) := F2_eq (gm_congr (v2_F2 _) E2.rfl)
theorem gw_digit (p : G) (x d : Nat) : F2 (gm (v2 (F2 (gp p x))) (v2 (F2 (gp p d)))) = F2 (gp p (x + d)) := by
  rw [gp_add]
  exact F2_eq (gm_congr (v2_F2 _) (v2_F2 _))
theorem gw_ones (p : G) {x : Nat} (h : F2 (gp p x) = O12) : F2 (gp p (16 * x)) = O12 := by
  have step : ∀ {y : Nat}, F2 (gp p y) = O12 → F2 (gp p (2 * y)) = O12 := fun {y} h => by
    rw [← gw_dbl, h]
    decide +kernel
  have := step (step (step (step h)))
  rwa [show 2 * (2 * (2 * (2 * x))) = 16 * x by omega] at this
abbrev XE : Cx := .of [(26, 12)] (tb S7.L4)
theorem XE_ok : CxOk Tryd.prog XE GlobD := cx_ok (E := [(26, 12)]) S7.L4 ⟨⟨Fp2.eqok2, Fp2.gd2⟩, trivial⟩ (by kernel_rfl)
/-- The slice that came in. -/
def Dp (A : Option Addr) (n : Nat) (l : List Int) : Option Addr → Nat → List Int → Prop := fun A' n' l' => A' = A ∧ n' = n ∧ l' = l
abbrev XP (A : Option Addr) (n : Nat) (l : List Int) (H : List (Nat × Ev)) : Cx := XE.sym (Dp A n l) H
/-- The condition: the slice is there. -/
def GP (A : Option Addr) (n : Nat) (l : List Int) (B : Nat) (u : World) : Prop := (GlobD u ∧ B ≤ u.heap.size) ∧ Rd u B A n .u64 l
theorem XP_ok {A : Option Addr} {n : Nat} {l : List Int} {B : Nat} (hw : Words l) (H : List (Nat × Ev)) : CxB Tryd.prog (XP A n l H) (GP A n l B) :=
  XE_ok.toCxB.sym (fun u h => h.1.1) (fun A' n' l' h => by
    obtain ⟨rfl, rfl, rfl⟩ := h
    exact ⟨hw, B, fun u hu => ⟨hu.1.2, hu.2⟩⟩) H
theorem GP.keep {A : Option Addr} {n : Nat} {l : List Int} {B : Nat} {w u : World} (h : GP A n l B w) (hb : RowKit.Below w.heap.size w u) : GP A n l B u := ⟨⟨h.1.1.keep hb, Nat.le_trans h.1.2 hb.size⟩, h.2.keep hb h.1.2⟩
def Zr12 : List Int := List.replicate 12 0
/-- The powers by now. -/
def tab (a : List Int) (i : Nat) : List Int := tbl (fun j => F2 (gp (v2 a) j)) (i + 1) ++ List.replicate ((15 - i) * 12) 0
def b4 (a T : List Int) : List Bk := [(26, [.nums 12 a]), (26, [.nums 12 Zr12]), (26, [.nums 12 O12]), (59, [.nums 192 T])]
section
variable (a T o : List Int) (A : Option Addr) (n c : Nat) (l : List Int)
def p1 (i : Nat) : St := ⟨mkSl 70 [(1, .ext A n c l), (2, .ptr 0 0), (4, .ptr 1 0), (5, .ptr 2 0), (6, .ptr 3 0), (17, .num .i64 i)], b4 a T⟩
def p1e : St := ⟨mkSl 70 [(1, .ext A n c l), (2, .ptr 0 0), (4, .ptr 1 0), (5, .ptr 2 0), (6, .ptr 3 0)], b4 a T⟩
def p2 (i : Nat) : St := ⟨mkSl 70 [(1, .ext A n c l), (4, .ptr 1 0), (5, .ptr 2 0), (6, .ptr 3 0), (8, .ptr 4 0), (32, .num .i64 ((n : Int) * 16)), (33, .num .i64 i)], b4 a T ++ [(26, [.nums 12 o])]⟩
def p2e : St := ⟨mkSl 70 [(4, .ptr 1 0), (8, .ptr 4 0)], b4 a T ++ [(26, [.nums 12 o])]⟩
end
theorem len_p (a : List Int) (j : Nat) : ((fun j => F2 (gp (v2 a) j)) j).length = 12 := (Fp2.Nm.F2 _).len
section
variable {a T o o' : List Int} {A : Option Addr} {n c : Nat} {l : List Int} {B S : Nat} {w : World}
theorem does (hw : Words l) (hG : ∀ u, RowKit.Below S w u → GP A n l B u) (c : Code) : Does Tryd.prog S 0 w c (evalC Tryd.prog (XP A n l []) 0 9 c) := code_ok (XP_ok hw []) hG c (fun _ _ _ h => by rw [hooked_nil] at h; cases h)
set_option maxRecDepth 100000 in
theorem rnd1 {i : Nat} {T' : List Int} (hi : i < 15) (ht1 : upd (0 + ((i : Int) + 1).toNat * 12) 12 (F2 (gm (v2 (seg (0 + (i : Int).toNat * 12) 12 T)) (v2 a))) T = T') (hw : Words l) (hG : ∀ u, RowKit.Below S w u → GP A n l B u) : Goes Tryd.prog S 0 w (lpc Tryd.f25 0) (p1 a T A n c l i) .nrm (p1 a T' A n c l (i + 1)) :=
  (does hw hG _).goes [true] (ps := [A = A ∧ n = n ∧ c = c ∧ l = l, (i : Int) + 1 = ((i + 1 : Nat) : Int), a = a, Zr12 = Zr12, O12 = O12, upd (0 + ((i : Int) + 1).toNat * 12) 12 (F2 (gm (v2 (seg (0 + (i : Int).toNat * 12) 12 T)) (v2 a))) T = T', qb true ((i : Int) < 15), IntKind.i64.wrap ((i : Int) + 1) = (i : Int) + 1, 0 ≤ (i : Int) ∧ (i : Int) < ((16 : Nat) : Int), 0 + (i : Int).toNat * 12 + 12 ≤ 192, 0 ≤ (i : Int) + 1 ∧ (i : Int) + 1 < ((16 : Nat) : Int), 0 + ((i : Int) + 1).toNat * 12 + 12 ≤ 192, IntKind.i64.wrap ((i : Int) + 1) = (i : Int) + 1]) (by kernel_rfl) (hp (⟨rfl, rfl, rfl, rfl⟩) (hp (by omega) (hp (rfl) (hp (rfl) (hp (rfl) (hp (ht1) (hp (by show (i : Int) < 15; omega) (hp (IntWalk.i64_in _ (by omega)) (hp (by omega) (hp (by omega) (hp (by omega) (hp (by omega) (hp (IntWalk.i64_in _ (by omega)) trivial))))))))))))) (by kernel_rfl)
set_option maxRecDepth 100000 in
theorem end1 (hw : Words l) (hG : ∀ u, RowKit.Below S w u → GP A n l B u) : Goes Tryd.prog S 0 w (lpc Tryd.f25 0) (p1 a T A n c l 15) (.ext 0) (p1e a T A n c l) :=
  (does hw hG _).goes [false] (ps := [A = A ∧ n = n ∧ c = c ∧ l = l, a = a, Zr12 = Zr12, O12 = O12, T = T, qb false (((15 : Nat) : Int) < 15)]) (by kernel_rfl) (hp (⟨rfl, rfl, rfl, rfl⟩) (hp (rfl) (hp (rfl) (hp (rfl) (hp (rfl) (hp (by show ¬ (((15 : Nat) : Int) < 15); omega) trivial)))))) (by kernel_rfl)
theorem tab_more {i : Nat} (hi : i < 15) : upd (0 + ((i : Int) + 1).toNat * 12) 12 (F2 (gm (v2 (seg (0 + (i : Int).toNat * 12) 12 (tab a i))) (v2 a))) (tab a i) = tab a (i + 1) := by
  rw [show 0 + ((i : Int) + 1).toNat * 12 = (i + 1) * 12 by omega, show 0 + (i : Int).toNat * 12 = i * 12 by omega, tab, seg_tbl (len_p a) _ (by omega), gw_more, show 15 - i = 14 - i + 1 by omega]
  rw [upd_tbl (len_p a) (f := fun j => F2 (gp (v2 a) j)) (n := i + 1), tab, show 15 - (i + 1) = 14 - i by omega]
theorem loop1 (hw : Words l) (hG : ∀ u, RowKit.Below S w u → GP A n l B u) : Goes Tryd.prog S 0 w (.block 0 (.loop (lpc Tryd.f25 0))) (p1 a (tab a 0) A n c l 0) .nrm (p1e a (tab a 15) A n c l) :=
  .loop (n := 15) (fun i => p1 a (tab a i) A n c l i) (fun i hi => rnd1 hi (tab_more hi) hw hG) (end1 hw hG)
/-- A round's word, shift, digits from there on. -/
abbrev wi (n i : Nat) : Int := (n : Int) - 1 - (i : Int) / 16
abbrev si (i : Nat) : Int := (15 - (i : Int) % 16) * 4
abbrev dg (n : Nat) (l : List Int) (i : Nat) : Int := nth l ((wi n i).toNat * 1) / 2 ^ (si i).toNat
theorem dg_in (hw : Words l) (i : Nat) : 0 ≤ dg n l i ∧ dg n l i < 18446744073709551616 := by
  have h := hw ((wi n i).toNat * 1)
  have h2 : dg n l i ≤ nth l ((wi n i).toNat * 1) := Int.ediv_le_self _ h.1
  exact ⟨Int.ediv_nonneg h.1 (Int.le_of_lt (Int.pow_pos (by decide))), by omega⟩
def ex_ (n : Nat) (l : List Int) (i : Nat) : Nat := (num l / tp (4 * (16 * n - i))).toNat
theorem ex_0 (hw : Words l) (hl : l.length = n) : ex_ n l 0 = 0 := by
  have hb := num_bounds hw
  rw [hl] at hb
  rw [ex_, show 4 * (16 * n - 0) = 64 * n by omega, tp_wp, Int.ediv_eq_zero_of_lt hb.1 hb.2]
  rfl
theorem ex_n : ex_ n l (n * 16) = (num l).toNat := by rw [ex_, show 4 * (16 * n - n * 16) = 0 by omega, tp_zero, Int.ediv_one]
theorem ex_more {i : Nat} (hi : i < n * 16) (hw : Words l) (hl : l.length = n) : ex_ n l (i + 1) = 16 * ex_ n l i + (dg n l i % 16).toNat := by
  have h := digit4 hw (i := n - 1 - i / 16) (s := 4 * (15 - i % 16)) (by omega) (by omega)
  rw [show 64 * (n - 1 - i / 16) + 4 * (15 - i % 16) = 4 * (16 * n - (i + 1)) by omega, show 64 * (n - 1 - i / 16) + (4 * (15 - i % 16) + 4) = 4 * (16 * n - i) by omega] at h
  have e : dg n l i = nth l (n - 1 - i / 16) / 2 ^ (4 * (15 - i % 16)) := by
    show nth l ((wi n i).toNat * 1) / 2 ^ (si i).toNat = _
    rw [show (wi n i).toNat * 1 = n - 1 - i / 16 by simp only [wi]; omega, show (si i).toNat = 4 * (15 - i % 16) by simp only [si]; omega]
  rw [← e] at h
  have h0 : 0 ≤ num l / tp (4 * (16 * n - i)) := Int.ediv_nonneg (num_bounds hw).1 (Int.le_of_lt (tp_pos _))
  have h1 := Int.emod_nonneg (dg n l i) (show (16 : Int) ≠ 0 by decide)
  rw [ex_, ex_, h]
  omega
/-- Squared four times. -/
abbrev sq1 (o : List Int) : List Int := F2 (gm (v2 o) (v2 o))
abbrev sq4 (o : List Int) : List Int := sq1 (sq1 (sq1 (sq1 o)))
set_option maxRecDepth 100000 in
theorem rnd2tt {i : Nat} (hi : i < n * 16) (hn : n ≤ 10000) (hdg : rng .u64 (dg n l i)) (h1 : qb true (o = O12)) (h2 : qb true (dg n l i % 16 = 0)) (hrow : o = o') (hw : Words l) (hG : ∀ u, RowKit.Below S w u → GP A n l B u) : Goes Tryd.prog S 0 w (lpc Tryd.f25 2) (p2 a T o A n c l i) .nrm (p2 a T o' A n c l (i + 1)) :=
  (does hw hG _).goes [true, true, true] (ps := [A = A ∧ n = n ∧ c = c ∧ l = l, (n : Int) * 16 = (n : Int) * 16, (i : Int) + 1 = ((i + 1 : Nat) : Int), a = a, Zr12 = Zr12, O12 = O12, T = T, o = o', qb true ((i : Int) < (n : Int) * 16), qb true (o = O12), IntKind.i64.wrap ((n : Int) - 1) = (n : Int) - 1, 0 ≤ (i : Int) ∧ (0 : Int) < 16, IntKind.i64.wrap ((i : Int) / 16) = (i : Int) / 16, IntKind.i64.wrap (wi n i) = wi n i, 0 ≤ wi n i ∧ wi n i < (n : Int), Dp A n l A (n * 1) l ∧ 0 < 1, (wi n i).toNat * 1 < n * 1, Dp A n l A (n * 1) l ∧ 0 < n * 1, 0 ≤ (i : Int) ∧ (0 : Int) < 16, True, IntKind.i64.wrap (15 - (i : Int) % 16) = 15 - (i : Int) % 16, IntKind.i64.wrap (si i) = si i, 0 ≤ si i ∧ si i < ((64 : Nat) : Int), rng .u64 (dg n l i), 0 ≤ dg n l i ∧ (0 : Int) < 16, rng .u64 (dg n l i % 16), qb true (dg n l i % 16 = 0), IntKind.i64.wrap ((i : Int) + 1) = (i : Int) + 1]) (by kernel_rfl) (hp (⟨rfl, rfl, rfl, rfl⟩) (hp (rfl) (hp (by omega) (hp (rfl) (hp (rfl) (hp (rfl) (hp (rfl) (hp (hrow) (hp (by show (i : Int) < (n : Int) * 16; omega) (hp (h1) (hp (IntWalk.i64_in _ (by omega)) (hp (by omega) (hp (IntWalk.i64_in _ (by omega)) (hp (IntWalk.i64_in _ (by simp only [wi]; omega)) (hp (by simp only [wi]; omega) (hp (⟨⟨rfl, Nat.mul_one _, rfl⟩, by decide⟩) (hp (by simp only [wi]; omega) (hp (⟨⟨rfl, Nat.mul_one _, rfl⟩, by omega⟩) (hp (by omega) (hp (trivial) (hp (IntWalk.i64_in _ (by omega)) (hp (IntWalk.i64_in _ (by simp only [si]; omega)) (hp (by simp only [si]; omega) (hp (hdg) (hp (⟨hdg.1, by decide⟩) (hp (⟨Int.emod_nonneg _ (by decide), by have := Int.emod_lt_of_pos (dg n l i) (show (0 : Int) < 16 by decide); omega⟩) (hp (h2) (hp (IntWalk.i64_in _ (by omega)) trivial)))))))))))))))))))))))))))) (by kernel_rfl)
set_option maxRecDepth 100000 in
theorem rnd2tf {i : Nat} (hi : i < n * 16) (hn : n ≤ 10000) (hdg : rng .u64 (dg n l i)) (h1 : qb true (o = O12)) (h2 : qb false (dg n l i % 16 = 0)) (hrow : F2 (gm (v2 o) (v2 (seg (0 + (dg n l i % 16).toNat * 12) 12 T))) = o') (hw : Words l) (hG : ∀ u, RowKit.Below S w u → GP A n l B u) : Goes Tryd.prog S 0 w (lpc Tryd.f25 2) (p2 a T o A n c l i) .nrm (p2 a T o' A n c l (i + 1)) :=
  (does hw hG _).goes [true, true, false] (ps := [A = A ∧ n = n ∧ c = c ∧ l = l, (n : Int) * 16 = (n : Int) * 16, (i : Int) + 1 = ((i + 1 : Nat) : Int), a = a, Zr12 = Zr12, O12 = O12, T = T, F2 (gm (v2 o) (v2 (seg (0 + (dg n l i % 16).toNat * 12) 12 T))) = o', qb true ((i : Int) < (n : Int) * 16), qb true (o = O12), IntKind.i64.wrap ((n : Int) - 1) = (n : Int) - 1, 0 ≤ (i : Int) ∧ (0 : Int) < 16, IntKind.i64.wrap ((i : Int) / 16) = (i : Int) / 16, IntKind.i64.wrap (wi n i) = wi n i, 0 ≤ wi n i ∧ wi n i < (n : Int), Dp A n l A (n * 1) l ∧ 0 < 1, (wi n i).toNat * 1 < n * 1, Dp A n l A (n * 1) l ∧ 0 < n * 1, 0 ≤ (i : Int) ∧ (0 : Int) < 16, True, IntKind.i64.wrap (15 - (i : Int) % 16) = 15 - (i : Int) % 16, IntKind.i64.wrap (si i) = si i, 0 ≤ si i ∧ si i < ((64 : Nat) : Int), rng .u64 (dg n l i), 0 ≤ dg n l i ∧ (0 : Int) < 16, rng .u64 (dg n l i % 16), qb false (dg n l i % 16 = 0), 0 ≤ dg n l i % 16 ∧ dg n l i % 16 < ((16 : Nat) : Int), 0 + (dg n l i % 16).toNat * 12 + 12 ≤ 192, IntKind.i64.wrap ((i : Int) + 1) = (i : Int) + 1]) (by kernel_rfl) (hp (⟨rfl, rfl, rfl, rfl⟩) (hp (rfl) (hp (by omega) (hp (rfl) (hp (rfl) (hp (rfl) (hp (rfl) (hp (hrow) (hp (by show (i : Int) < (n : Int) * 16; omega) (hp (h1) (hp (IntWalk.i64_in _ (by omega)) (hp (by omega) (hp (IntWalk.i64_in _ (by omega)) (hp (IntWalk.i64_in _ (by simp only [wi]; omega)) (hp (by simp only [wi]; omega) (hp (⟨⟨rfl, Nat.mul_one _, rfl⟩, by decide⟩) (hp (by simp only [wi]; omega) (hp (⟨⟨rfl, Nat.mul_one _, rfl⟩, by omega⟩) (hp (by omega) (hp (trivial) (hp (IntWalk.i64_in _ (by omega)) (hp (IntWalk.i64_in _ (by simp only [si]; omega)) (hp (by simp only [si]; omega) (hp (hdg) (hp (⟨hdg.1, by decide⟩) (hp (⟨Int.emod_nonneg _ (by decide), by have := Int.emod_lt_of_pos (dg n l i) (show (0 : Int) < 16 by decide); omega⟩) (hp (h2) (hp (⟨Int.emod_nonneg _ (by decide), Int.emod_lt_of_pos _ (by decide)⟩) (hp (by have := Int.emod_nonneg (dg n l i) (show (16 : Int) ≠ 0 by decide); have := Int.emod_lt_of_pos (dg n l i) (show (0 : Int) < 16 by decide); omega) (hp (IntWalk.i64_in _ (by omega)) trivial)))))))))))))))))))))))))))))) (by kernel_rfl)
set_option maxRecDepth 100000 in
theorem rnd2ft {i : Nat} (hi : i < n * 16) (hn : n ≤ 10000) (hdg : rng .u64 (dg n l i)) (h1 : qb false (o = O12)) (h2 : qb true (dg n l i % 16 = 0)) (hrow : sq4 o = o') (hw : Words l) (hG : ∀ u, RowKit.Below S w u → GP A n l B u) : Goes Tryd.prog S 0 w (lpc Tryd.f25 2) (p2 a T o A n c l i) .nrm (p2 a T o' A n c l (i + 1)) :=
  (does hw hG _).goes [true, false, true] (ps := [A = A ∧ n = n ∧ c = c ∧ l = l, (n : Int) * 16 = (n : Int) * 16, (i : Int) + 1 = ((i + 1 : Nat) : Int), a = a, Zr12 = Zr12, O12 = O12, T = T, sq4 o = o', qb true ((i : Int) < (n : Int) * 16), qb false (o = O12), IntKind.i64.wrap ((n : Int) - 1) = (n : Int) - 1, 0 ≤ (i : Int) ∧ (0 : Int) < 16, IntKind.i64.wrap ((i : Int) / 16) = (i : Int) / 16, IntKind.i64.wrap (wi n i) = wi n i, 0 ≤ wi n i ∧ wi n i < (n : Int), Dp A n l A (n * 1) l ∧ 0 < 1, (wi n i).toNat * 1 < n * 1, Dp A n l A (n * 1) l ∧ 0 < n * 1, 0 ≤ (i : Int) ∧ (0 : Int) < 16, True, IntKind.i64.wrap (15 - (i : Int) % 16) = 15 - (i : Int) % 16, IntKind.i64.wrap (si i) = si i, 0 ≤ si i ∧ si i < ((64 : Nat) : Int), rng .u64 (dg n l i), 0 ≤ dg n l i ∧ (0 : Int) < 16, rng .u64 (dg n l i % 16), qb true (dg n l i % 16 = 0), IntKind.i64.wrap ((i : Int) + 1) = (i : Int) + 1]) (by kernel_rfl) (hp (⟨rfl, rfl, rfl, rfl⟩) (hp (rfl) (hp (by omega) (hp (rfl) (hp (rfl) (hp (rfl) (hp (rfl) (hp (hrow) (hp (by show (i : Int) < (n : Int) * 16; omega) (hp (h1) (hp (IntWalk.i64_in _ (by omega)) (hp (by omega) (hp (IntWalk.i64_in _ (by omega)) (hp (IntWalk.i64_in _ (by simp only [wi]; omega)) (hp (by simp only [wi]; omega) (hp (⟨⟨rfl, Nat.mul_one _, rfl⟩, by decide⟩) (hp (by simp only [wi]; omega) (hp (⟨⟨rfl, Nat.mul_one _, rfl⟩, by omega⟩) (hp (by omega) (hp (trivial) (hp (IntWalk.i64_in _ (by omega)) (hp (IntWalk.i64_in _ (by simp only [si]; omega)) (hp (by simp only [si]; omega) (hp (hdg) (hp (⟨hdg.1, by decide⟩) (hp (⟨Int.emod_nonneg _ (by decide), by have := Int.emod_lt_of_pos (dg n l i) (show (0 : Int) < 16 by decide); omega⟩) (hp (h2) (hp (IntWalk.i64_in _ (by omega)) trivial)))))))))))))))))))))))))))) (by kernel_rfl)
set_option maxRecDepth 100000 in
theorem rnd2ff {i : Nat} (hi : i < n * 16) (hn : n ≤ 10000) (hdg : rng .u64 (dg n l i)) (h1 : qb false (o = O12)) (h2 : qb false (dg n l i % 16 = 0)) (hrow : F2 (gm (v2 (sq4 o)) (v2 (seg (0 + (dg n l i % 16).toNat * 12) 12 T))) = o') (hw : Words l) (hG : ∀ u, RowKit.Below S w u → GP A n l B u) : Goes Tryd.prog S 0 w (lpc Tryd.f25 2) (p2 a T o A n c l i) .nrm (p2 a T o' A n c l (i + 1)) :=
  (does hw hG _).goes [true, false, false] (ps := [A = A ∧ n = n ∧ c = c ∧ l = l, (n : Int) * 16 = (n : Int) * 16, (i : Int) + 1 = ((i + 1 : Nat) : Int), a = a, Zr12 = Zr12, O12 = O12, T = T, F2 (gm (v2 (sq4 o)) (v2 (seg (0 + (dg n l i % 16).toNat * 12) 12 T))) = o', qb true ((i : Int) < (n : Int) * 16), qb false (o = O12), IntKind.i64.wrap ((n : Int) - 1) = (n : Int) - 1, 0 ≤ (i : Int) ∧ (0 : Int) < 16, IntKind.i64.wrap ((i : Int) / 16) = (i : Int) / 16, IntKind.i64.wrap (wi n i) = wi n i, 0 ≤ wi n i ∧ wi n i < (n : Int), Dp A n l A (n * 1) l ∧ 0 < 1, (wi n i).toNat * 1 < n * 1, Dp A n l A (n * 1) l ∧ 0 < n * 1, 0 ≤ (i : Int) ∧ (0 : Int) < 16, True, IntKind.i64.wrap (15 - (i : Int) % 16) = 15 - (i : Int) % 16, IntKind.i64.wrap (si i) = si i, 0 ≤ si i ∧ si i < ((64 : Nat) : Int), rng .u64 (dg n l i), 0 ≤ dg n l i ∧ (0 : Int) < 16, rng .u64 (dg n l i % 16), qb false (dg n l i % 16 = 0), 0 ≤ dg n l i % 16 ∧ dg n l i % 16 < ((16 : Nat) : Int), 0 + (dg n l i % 16).toNat * 12 + 12 ≤ 192, IntKind.i64.wrap ((i : Int) + 1) = (i : Int) + 1]) (by kernel_rfl) (hp (⟨rfl, rfl, rfl, rfl⟩) (hp (rfl) (hp (by omega) (hp (rfl) (hp (rfl) (hp (rfl) (hp (rfl) (hp (hrow) (hp (by show (i : Int) < (n : Int) * 16; omega) (hp (h1) (hp (IntWalk.i64_in _ (by omega)) (hp (by omega) (hp (IntWalk.i64_in _ (by omega)) (hp (IntWalk.i64_in _ (by simp only [wi]; omega)) (hp (by simp only [wi]; omega) (hp (⟨⟨rfl, Nat.mul_one _, rfl⟩, by decide⟩) (hp (by simp only [wi]; omega) (hp (⟨⟨rfl, Nat.mul_one _, rfl⟩, by omega⟩) (hp (by omega) (hp (trivial) (hp (IntWalk.i64_in _ (by omega)) (hp (IntWalk.i64_in _ (by simp only [si]; omega)) (hp (by simp only [si]; omega) (hp (hdg) (hp (⟨hdg.1, by decide⟩) (hp (⟨Int.emod_nonneg _ (by decide), by have := Int.emod_lt_of_pos (dg n l i) (show (0 : Int) < 16 by decide); omega⟩) (hp (h2) (hp (⟨Int.emod_nonneg _ (by decide), Int.emod_lt_of_pos _ (by decide)⟩) (hp (by have := Int.emod_nonneg (dg n l i) (show (16 : Int) ≠ 0 by decide); have := Int.emod_lt_of_pos (dg n l i) (show (0 : Int) < 16 by decide); omega) (hp (IntWalk.i64_in _ (by omega)) trivial)))))))))))))))))))))))))))))) (by kernel_rfl)
set_option maxRecDepth 100000 in
theorem end2 (hw : Words l) (hG : ∀ u, RowKit.Below S w u → GP A n l B u) : Goes Tryd.prog S 0 w (lpc Tryd.f25 2) (p2 a T o A n c l (n * 16)) (.ext 2) (p2e a T o) :=
  (does hw hG _).goes [false] (ps := [a = a, Zr12 = Zr12, O12 = O12, T = T, o = o, qb false (((n * 16 : Nat) : Int) < (n : Int) * 16)]) (by kernel_rfl) (hp (rfl) (hp (rfl) (hp (rfl) (hp (rfl) (hp (rfl) (hp (by show ¬ (((n * 16 : Nat) : Int) < (n : Int) * 16); omega) trivial)))))) (by kernel_rfl)
theorem sq4_p (p : G) (x : Nat) : sq4 (F2 (gp p x)) = F2 (gp p (16 * x)) := by
  simp only [sq4, sq1, gw_dbl]
  rw [show 2 * (2 * (2 * (2 * x))) = 16 * x by omega]
theorem rnd2 {i : Nat} (hi : i < n * 16) (hn : n ≤ 10000) (hl : l.length = n) (hw : Words l) (hG : ∀ u, RowKit.Below S w u → GP A n l B u) : Goes Tryd.prog S 0 w (lpc Tryd.f25 2) (p2 a (tab a 15) (F2 (gp (v2 a) (ex_ n l i))) A n c l i) .nrm (p2 a (tab a 15) (F2 (gp (v2 a) (ex_ n l (i + 1)))) A n c l (i + 1)) := by
  have hd := dg_in (n := n) hw i
  have hm := ex_more hi hw hl
  have h0 := Int.emod_nonneg (dg n l i) (show (16 : Int) ≠ 0 by decide)
  have h9 := Int.emod_lt_of_pos (dg n l i) (show (0 : Int) < 16 by decide)
  have hs : seg (0 + (dg n l i % 16).toNat * 12) 12 (tab a 15) = F2 (gp (v2 a) (dg n l i % 16).toNat) := by
    rw [Nat.zero_add, tab, seg_tbl (len_p a) _ (by omega)]
  by_cases h1 : F2 (gp (v2 a) (ex_ n l i)) = O12
  · have h16 := gw_ones _ h1
    by_cases h2 : dg n l i % 16 = 0
    · refine rnd2tt hi hn hd h1 h2 ?_ hw hG
      rw [hm, h2, h1]
      exact h16.symm
    · refine rnd2tf hi hn hd h1 h2 ?_ hw hG
      rw [hs, hm, h1, ← h16, gw_digit]
  · by_cases h2 : dg n l i % 16 = 0
    · refine rnd2ft hi hn hd h1 h2 ?_ hw hG
      rw [sq4_p, hm, h2]
      rfl
    · refine rnd2ff hi hn hd h1 h2 ?_ hw hG
      rw [sq4_p, hs, gw_digit, hm]
theorem loop2 (hn : n ≤ 10000) (hl : l.length = n) (hw : Words l) (hG : ∀ u, RowKit.Below S w u → GP A n l B u) : Goes Tryd.prog S 0 w (.block 2 (.loop (lpc Tryd.f25 2))) (p2 a (tab a 15) (F2 (gp (v2 a) (ex_ n l 0))) A n c l 0) .nrm (p2e a (tab a 15) (F2 (gp (v2 a) (num l).toNat))) :=
  .loop (n := n * 16) (fun i => p2 a (tab a 15) (F2 (gp (v2 a) (ex_ n l i))) A n c l i) (fun i hi => rnd2 hi hn hl hw hG) (by rw [ex_n]; exact end2 hw hG)
end
theorem tab_0 (a : List Int) : O12 ++ List.replicate 180 0 = tab a 0 := by
  show _ = ([] ++ F2 (1, 0)) ++ List.replicate (15 * 12) 0
  rw [Fo_one]
  rfl
theorem blk0 : blkc Tryd.f25 0 = .loop (lpc Tryd.f25 0) := by kernel_rfl
theorem blk2 : blkc Tryd.f25 2 = .loop (lpc Tryd.f25 2) := by kernel_rfl
set_option maxRecDepth 100000 in
theorem lPow (a : List Int) (ha : Nm 12 a) (A : Option Addr) (n c : Nat) (l : List Int) (B : Nat) (w : World) (hG0 : GlobD w) (hr : Rd w B A n .u64 l) (hw : Words l) (hB : B ≤ w.heap.size) (hn : n ≤ 10000) : Calls Tryd.prog 25 #[.agg (vals .u64 a), .slice A n c] w fun e w' => e = .returned (.agg (vals .u64 (F2 (gp (v2 a) (num l).toNat)))) ∧ RowKit.Below w.heap.size w w' := by
  have hG : ∀ u, RowKit.Below w.heap.size w u → GP A n l B u := fun u hu => GP.keep ⟨⟨hG0, hB⟩, hr⟩ hu
  have hk : AllH Tryd.prog w.heap.size 0 w [(0, blkc Tryd.f25 0, hookEv (p1 a (tab a 0) A n c l 0) (p1e a (tab a 15) A n c l)), (2, blkc Tryd.f25 2, hookEv (p2 a (tab a 15) (F2 (gp (v2 a) (ex_ n l 0))) A n c l 0) (p2e a (tab a 15) (F2 (gp (v2 a) (num l).toNat))))] :=
    ⟨by rw [blk0]; exact (loop1 hw hG).does (by kernel_rfl), by rw [blk2]; exact (loop2 hn hr.len hw hG).does (by kernel_rfl), trivial⟩
  have he : evalF Tryd.prog (XP A n l [(0, hookEv (p1 a (tab a 0) A n c l 0) (p1e a (tab a 15) A n c l)), (2, hookEv (p2 a (tab a 15) (F2 (gp (v2 a) (ex_ n l 0))) A n c l 0) (p2e a (tab a 15) (F2 (gp (v2 a) (num l).toNat))))]) 0 9 Tryd.f25 [W 12 a, .ext A n c l] [] [] = some ([.agg [.nums 12 (F2 (gp (v2 a) (num l).toNat))]], [A = A ∧ n = n ∧ c = c ∧ l = l, (0 : Int) = ((0 : Nat) : Int), a = a, Zr12 = Zr12, O12 = O12, O12 ++ List.replicate 180 0 = tab a 0, IntKind.i64.wrap ((n : Int) * 16) = (n : Int) * 16, A = A ∧ n = n ∧ c = c ∧ l = l, (n : Int) * 16 = (n : Int) * 16, (0 : Int) = ((0 : Nat) : Int), a = a, Zr12 = Zr12, O12 = O12, tab a 15 = tab a 15, O12 = F2 (gp (v2 a) (ex_ n l 0))]) := by kernel_rfl
  have h := fn_okH (gs := []) (w := w) (XP_ok (B := B) hw [(0, hookEv (p1 a (tab a 0) A n c l 0) (p1e a (tab a 15) A n c l)), (2, hookEv (p2 a (tab a 15) (F2 (gp (v2 a) (ex_ n l 0))) A n c l 0) (p2e a (tab a 15) (F2 (gp (v2 a) (num l).toNat))))]) (fn_hooks (by kernel_rfl) hk) Tryd.func25 he (hp (⟨rfl, rfl, rfl, rfl⟩) (hp (rfl) (hp (rfl) (hp (rfl) (hp (rfl) (hp (tab_0 a) (hp (IntWalk.i64_in _ (by omega)) (hp (⟨rfl, rfl, rfl, rfl⟩) (hp (rfl) (hp (rfl) (hp (rfl) (hp (rfl) (hp (rfl) (hp (rfl) (hp (by rw [ex_0 hw hr.len]; exact Fo_one.symm) trivial))))))))))))))) rfl rfl (fun v hv => by
    rcases List.mem_cons.1 hv with rfl | hv
    · exact w_ok ha _
    · rcases List.mem_cons.1 hv with rfl | hv
      · trivial
      · cases hv) hG (fun k t r h => by simp at h)
  simp only [List.map_cons, List.map_nil, w_den] at h
  exact h.mono fun e w' ⟨v, hv, e1, _, e2⟩ => by
    obtain rfl := List.mem_singleton.1 hv
    exact ⟨by rw [e1, w_den], e2⟩
end Go.Proofs.YtpnpiiocpjbffaaDoor.S7P
