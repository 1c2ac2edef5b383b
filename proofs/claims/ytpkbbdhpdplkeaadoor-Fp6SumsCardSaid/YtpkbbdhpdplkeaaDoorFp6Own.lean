/-
  Own text. The contracts of layer 9's landed package.
-/
import Derived.Test.YtpkbbdhpdplkeaaDoorFp6T
import Derived.Test.YtpkbbdhpdplkeaaDoorMRegT
import Derived.Test.YtpkbbdhpdplkeaaDoorFp6Ref2
import Derived.Test.YtpkbbdhpdplkeaaDoorFp2OwnI
import Derived.Great.BuildSlice
namespace Go.Proofs.YtpkbbdhpdplkeaaDoor.Fp6
set_option linter.unusedVariables false
set_option linter.unusedSimpArgs false
open Go Go.RowKit Go.Proofs.YtpkbbdhpdplkeaaDoor.Reg Go.Proofs.YtpkbbdhpdplkeaaDoor.Base Go.Proofs.YtpkbbdhpdplkeaaDoor.Limb Go.Proofs.YtpkbbdhpdplkeaaDoor.Fp Go.Proofs.YtpkbbdhpdplkeaaDoor.Fp2

/-- A sum of two parts, and of those behind them. -/
def acc (a b xs : List Int) : Nat → List Int
  | 0 => F2 (ga (v2 a) (v2 b))
  | i + 1 => F2 (ga (v2 (acc a b xs i)) (v2 (seg (i * 12) 12 xs)))
theorem acc_nm (a b xs : List Int) : ∀ i, Nm 12 (acc a b xs i)
  | 0 => .F2 _
  | i + 1 => .F2 _
instance {a b xs : List Int} {i : Nat} : Nw 12 (acc a b xs i) := ⟨acc_nm a b xs i⟩
instance : Agg Tryd.prog 42 36 := .of Tryd.underlying42 (by kernel_rfl) rfl
theorem b33 {x y z : List Int} [h : Nw 12 x] [k : Nw 12 y] [j : Nw 12 z] : Tryd.prog.built 42 [(0, .agg (vals .u64 x)), (1, .agg (vals .u64 y)), (2, .agg (vals .u64 z))] = some (vals .u64 (x ++ y ++ z)) := by
  have hx := h.nm.len
  have hy := k.nm.len
  have hz := j.nm.len
  rw [built33, fill_part (off := 0) (n := 12) rfl hx (by simp), fill_part (off := 12) (n := 12) rfl hy (by simp [hx]), fill_part (off := 24) (n := 12) rfl hz (by simp [hx, hy])]
  simp only [Instr.fill, List.take_zero, List.nil_append, Nat.zero_add]
  rw [List.take_left' hx, List.take_left' (l₁ := x ++ y) (by simp [hx, hy]), List.drop_eq_nil_of_le (by simp [hx, hy, hz]), List.append_nil]

set_option maxRecDepth 100000 in
set_option maxHeartbeats 4000000 in
theorem sum_c (a : List Int) (ha : Nm 12 a) (b : List Int) (hb : Nm 12 b) (A : Option Addr) (m c : Nat) (xs : List Int) (hx : Nm (m * 12) xs) (hm : m ≤ 1000) (w : World) (hG : Glob w) (hs : ∀ i, i < m → ∃ g, A = some ⟨g, 0, none⟩ ∧ Has w g 26 (vals .u64 xs)) :
    Calls Tryd.prog 34 #[.agg (vals .u64 a), .agg (vals .u64 b), .slice A m c] w fun e w' => e = .returned (.agg (vals .u64 (acc a b xs m))) ∧ Below w.heap.size w w' := by
  have : Nw 12 a := ⟨ha⟩
  have : Nw 12 b := ⟨hb⟩
  have NX : Keep (∀ i, i < m → Nm 12 (seg (i * 12) 12 xs)) := ⟨fun i hi => hx.seg (by omega)⟩
  have LX : Keep (xs.length = m * 12) := ⟨hx.len⟩
  have HM : Keep (m ≤ 1000) := ⟨hm⟩
  have QX : Keep (∀ i, i < m → ∃ g, A = some ⟨g, 0, none⟩ ∧ ∀ u, Below w.heap.size w u → Has u g 26 (vals .u64 xs)) := ⟨fun i hi => let ⟨g, h1, h2⟩ := hs i hi; ⟨g, h1, fun u hu => h2.keep hu⟩⟩
  clear hs hx hm
  obtain ⟨S, hS⟩ : ∃ S, w.heap.size = S := ⟨_, rfl⟩
  obtain ⟨w0, H0, hw⟩ := kn3 hS (vals .u64 a) 26 (vals .u64 b) 26 (vals .u64 Fp2.Z12) 26
  have HG := keepB hS hG Glob.keep
  clear hG
  rw [hS] at QX ⊢
  go_enter Tryd.func34, Tryd.ntmps34
  go_wp2_with (first
    | (refine H1.nv rfl rfl rfl rfl rfl (by kernel_rfl) fun w2 H2 => ?_
       clear H1)
    | (go_at_call 29
       refine H0.call (lAdd2 a ha b hb _ (HG.out _ H0.bel)) fun w1 H1 => ?_
       clear H0)
    | (refine H0.lrow 1 rfl rfl rfl rfl ?_)
    | (refine H0.lrow 0 rfl rfl rfl rfl ?_)
    | (refine wpl_at hw ?_
       clear hw))
  obtain ⟨gt, hgt⟩ : ∃ g, w1.heap.size = g := ⟨_, rfl⟩
  rw [hgt] at H2 ⊢
  clear hgt
  go_loopg [15] m (fun (gk : Nat) vi wr => ∃ i : Nat, i + gk = m ∧ vi = .int .i64 (i : Int) ∧ Kn S w [⟨S, 26, vals .u64 a⟩, ⟨S + 1, 26, vals .u64 b⟩, ⟨S + 2, 26, vals .u64 Fp2.Z12⟩, ⟨gt, 26, vals .u64 (acc a b xs i)⟩] wr)
  case atStart => exact ⟨0, by omega, rfl, H2⟩
  case round =>
    clear H2
    obtain ⟨i, hk, rfl, H3⟩ := hrel
    rcases gk with _ | m'
    · obtain rfl : i = m := by omega
      go_wp2_with (first
        | (refine H3.st 2 rfl rfl rfl rfl rfl rfl fun w4 H4 => ?_
           clear H3)
        | (refine H3.lrow 3 rfl rfl rfl rfl ?_))
      exact H4.ret 2 rfl rfl rfl rfl rfl
    · have hi : i < m := by omega
      have hm := HM.out
      obtain ⟨g, rfl, hg⟩ := QX.out i hi
      have hg3 := hg _ H3.bel
      have : Nw 12 (seg (i * 12) 12 xs) := ⟨NX.out i hi⟩
      have hlx := LX.out
      have hso : i * 12 + 12 ≤ m * 12 := by omega
      have : Cz (m * 12) (vals .u64 xs) := ⟨by rw [vals_size]; exact hlx, vals_one⟩
      have hac : Nm 12 (acc a b xs i) := acc_nm a b xs i
      have H9 : Keep (F2 (ga (v2 (acc a b xs i)) (v2 (seg (i * 12) 12 xs))) = acc a b xs (i + 1)) := ⟨rfl⟩
      have n9 : Nw 12 (acc a b xs (i + 1)) := inferInstance
      have P1 : Keep (∀ u : World, Glob u → _) := ⟨fun u (hG : Glob u) => lAdd2 (acc a b xs i) hac (seg (i * 12) 12 xs) (NX.out i hi) u hG⟩
      rw [H9.out] at P1
      obtain ⟨c1, hc1⟩ : ∃ c, acc a b xs (i + 1) = c := ⟨_, rfl⟩
      have H8 : Keep (acc a b xs (i + 1) = c1) := ⟨hc1⟩
      rw [hc1] at P1 n9
      obtain ⟨c0, hc0⟩ : ∃ c, acc a b xs i = c := ⟨_, rfl⟩
      rw [hc0] at P1 H3 hac
      have : Nw 12 c0 := ⟨hac⟩
      clear hg hc1 hc0 hlx H9 hac
      go_wp2_with (first
        | (refine H5.st 3 rfl rfl rfl rfl rfl rfl fun w6 H6 => ?_
           clear H5)
        | (go_at_call 29
           refine H4.call (P1.out _ (HG.out _ H4.bel)) fun w5 H5 => ?_
           clear H4)
        | (refine H4.lrow 4 rfl rfl rfl rfl ?_)
        | (refine H4.lrow 3 rfl rfl rfl rfl ?_)
        | (refine H3.nv rfl rfl rfl rfl rfl (by kernel_rfl) fun w4 H4 => ?_
           clear H3)
        | (refine oseg hg3 rfl rfl rfl hso ?_))
      go_roundg m'
      case measure => omega
      case rel => exact ⟨i + 1, by omega, by go_num, by rw [H8.out]; exact Kn.cut (k := [_]) H6⟩
section
variable {a b x : List Int}
theorem sum_n (ha : Nm 12 a) (hb : Nm 12 b) (w : World) (hG : Glob w) : Calls Tryd.prog 34 #[.agg (vals .u64 a), .agg (vals .u64 b), .slice none 0 0] w fun e w' => e = .returned (.agg (vals .u64 (F2 (ga (v2 a) (v2 b))))) ∧ Below w.heap.size w w' := sum_c a ha b hb none 0 0 [] ⟨rfl, words_of _ (by decide)⟩ (by decide) w hG (fun _ h => absurd h (Nat.not_lt_zero _))
theorem sum_1 (ha : Nm 12 a) (hb : Nm 12 b) (hx : Nm 12 x) (g : Nat) (w : World) (hG : Glob w) (hh : Has w g 26 (vals .u64 x)) : Calls Tryd.prog 34 #[.agg (vals .u64 a), .agg (vals .u64 b), .slice (some ⟨g, 0, none⟩) 1 1] w fun e w' => e = .returned (.agg (vals .u64 (F2 (ga (v2 (F2 (ga (v2 a) (v2 b)))) (v2 x))))) ∧ Below w.heap.size w w' := by
  have h := sum_c a ha b hb (some ⟨g, 0, none⟩) 1 1 x hx (by decide) w hG (fun _ _ => ⟨g, rfl, hh⟩)
  have e : seg (0 * 12) 12 x = x := by rw [seg, Nat.zero_mul, List.drop_zero, List.take_of_length_le (by rw [hx.len]; omega)]
  rw [acc, acc, e] at h
  exact h
end

set_option maxRecDepth 100000 in
set_option maxHeartbeats 4000000 in
theorem lRed6 (a : List Int) (ha : Nm 36 a) (w : World) (hG : Glob w) : Calls Tryd.prog 10 #[.agg (vals .u64 a)] w fun e w' => e = .returned (.agg (vals .u64 (F6 (v6 a)))) ∧ Below w.heap.size w w' := by
  have : Nw 36 a := ⟨ha⟩
  obtain ⟨S, hS⟩ : ∃ S, w.heap.size = S := ⟨_, rfl⟩
  obtain ⟨w0, H0, hw⟩ := kn2 hS (vals .u64 a) 28 (vals .u64 Fp6.Z36) 28
  have HG := keepB hS hG Glob.keep
  clear hG
  rw [hS]
  go_enter Tryd.func10, Tryd.ntmps10
  go_wp2
  refine wp_at hw ?_
  clear hw
  refine H0.reads 10 1 1 rfl (by kernel_rfl) (fun _ _ d _ _ h => by cases d <;> exact h) ?_
  have hk := fun u => H0.upG (y := u) 1 rfl HG
  simp only [List.take_succ_cons, List.take_zero]
  repeat (refine tstep ?_; (first
    | refine H0.ldw 0 1 rfl rfl rfl rfl rfl rfl ?_ | refine H0.ld 0 1 rfl rfl rfl rfl rfl rfl (by decide) ?_
    | refine tbuild rfl rfl b36 ?_
    | refine tcall (fun u hw => (by unfold Oper.quietAt; go_simp; with_reducible first | refine lRed2 _ nw _ (hk _ hw) | refine lSub2 _ nw _ nw _ (hk _ hw) | refine lMul2 _ nw _ nw _ (hk _ hw) | refine lNeg2 _ nw _ (hk _ hw) | refine lXi2 _ nw _ (hk _ hw) | refine sum_n nw nw _ (hk _ hw))) rfl ?_
    | refine tpure rfl (fun u => by first | (go_simp; done) | (go_simp; with_reducible rfl)) ?_); simp only [List.getElem_toArray, List.getElem_cons_zero, List.getElem_cons_succ, Act.put, List.setIfInBounds_toArray, List.set_cons_zero, List.set_cons_succ])
  refine wpTake_nil ?_
  refine H0.tst 10 1 rfl rfl (by kernel_rfl) (by kernel_rfl) rfl rfl rfl rfl rfl fun w1 H1 => ?_
  clear H0 hk
  go_wp2
  exact H1.ret 1 rfl rfl rfl rfl rfl

set_option maxRecDepth 100000 in
set_option maxHeartbeats 4000000 in
theorem lAdd6 (a : List Int) (ha : Nm 36 a) (b : List Int) (hb : Nm 36 b) (w : World) (hG : Glob w) : Calls Tryd.prog 12 #[.agg (vals .u64 a), .agg (vals .u64 b)] w fun e w' => e = .returned (.agg (vals .u64 (F6 (Fp6.ha (v6 a) (v6 b))))) ∧ Below w.heap.size w w' := by
  have : Nw 36 a := ⟨ha⟩
  have : Nw 36 b := ⟨hb⟩
  obtain ⟨S, hS⟩ : ∃ S, w.heap.size = S := ⟨_, rfl⟩
  obtain ⟨w0, H0, hw⟩ := kn3 hS (vals .u64 a) 28 (vals .u64 b) 28 (vals .u64 Fp6.Z36) 28
  have HG := keepB hS hG Glob.keep
  clear hG
  rw [hS]
  go_enter Tryd.func12, Tryd.ntmps12
  go_wp2
  refine wp_at hw ?_
  clear hw
  refine H0.reads 16 1 2 rfl (by kernel_rfl) (fun _ _ d _ _ h => by cases d <;> exact h) ?_
  have hk := fun u => H0.upG (y := u) 2 rfl HG
  simp only [List.take_succ_cons, List.take_zero]
  repeat (refine tstep ?_; (first
    | refine H0.ldw 0 2 rfl rfl rfl rfl rfl rfl ?_ | refine H0.ld 0 2 rfl rfl rfl rfl rfl rfl (by decide) ?_
    | refine H0.ldw 1 2 rfl rfl rfl rfl rfl rfl ?_ | refine H0.ld 1 2 rfl rfl rfl rfl rfl rfl (by decide) ?_
    | refine tbuild rfl rfl b36 ?_
    | refine tcall (fun u hw => (by unfold Oper.quietAt; go_simp; with_reducible first | refine lRed2 _ nw _ (hk _ hw) | refine lSub2 _ nw _ nw _ (hk _ hw) | refine lMul2 _ nw _ nw _ (hk _ hw) | refine lNeg2 _ nw _ (hk _ hw) | refine lXi2 _ nw _ (hk _ hw) | refine sum_n nw nw _ (hk _ hw))) rfl ?_
    | refine tpure rfl (fun u => by first | (go_simp; done) | (go_simp; with_reducible rfl)) ?_); simp only [List.getElem_toArray, List.getElem_cons_zero, List.getElem_cons_succ, Act.put, List.setIfInBounds_toArray, List.set_cons_zero, List.set_cons_succ])
  refine wpTake_nil ?_
  refine H0.tst 16 2 rfl rfl (by kernel_rfl) (by kernel_rfl) rfl rfl rfl rfl rfl fun w1 H1 => ?_
  clear H0 hk
  go_wp2
  exact H1.ret 2 rfl rfl rfl rfl rfl

set_option maxRecDepth 100000 in
set_option maxHeartbeats 4000000 in
theorem lSub6 (a : List Int) (ha : Nm 36 a) (b : List Int) (hb : Nm 36 b) (w : World) (hG : Glob w) : Calls Tryd.prog 14 #[.agg (vals .u64 a), .agg (vals .u64 b)] w fun e w' => e = .returned (.agg (vals .u64 (F6 (Fp6.hs (v6 a) (v6 b))))) ∧ Below w.heap.size w w' := by
  have : Nw 36 a := ⟨ha⟩
  have : Nw 36 b := ⟨hb⟩
  obtain ⟨S, hS⟩ : ∃ S, w.heap.size = S := ⟨_, rfl⟩
  obtain ⟨w0, H0, hw⟩ := kn3 hS (vals .u64 a) 28 (vals .u64 b) 28 (vals .u64 Fp6.Z36) 28
  have HG := keepB hS hG Glob.keep
  clear hG
  rw [hS]
  go_enter Tryd.func14, Tryd.ntmps14
  go_wp2
  refine wp_at hw ?_
  clear hw
  refine H0.reads 16 1 2 rfl (by kernel_rfl) (fun _ _ d _ _ h => by cases d <;> exact h) ?_
  have hk := fun u => H0.upG (y := u) 2 rfl HG
  simp only [List.take_succ_cons, List.take_zero]
  repeat (refine tstep ?_; (first
    | refine H0.ldw 0 2 rfl rfl rfl rfl rfl rfl ?_ | refine H0.ld 0 2 rfl rfl rfl rfl rfl rfl (by decide) ?_
    | refine H0.ldw 1 2 rfl rfl rfl rfl rfl rfl ?_ | refine H0.ld 1 2 rfl rfl rfl rfl rfl rfl (by decide) ?_
    | refine tbuild rfl rfl b36 ?_
    | refine tcall (fun u hw => (by unfold Oper.quietAt; go_simp; with_reducible first | refine lRed2 _ nw _ (hk _ hw) | refine lSub2 _ nw _ nw _ (hk _ hw) | refine lMul2 _ nw _ nw _ (hk _ hw) | refine lNeg2 _ nw _ (hk _ hw) | refine lXi2 _ nw _ (hk _ hw) | refine sum_n nw nw _ (hk _ hw))) rfl ?_
    | refine tpure rfl (fun u => by first | (go_simp; done) | (go_simp; with_reducible rfl)) ?_); simp only [List.getElem_toArray, List.getElem_cons_zero, List.getElem_cons_succ, Act.put, List.setIfInBounds_toArray, List.set_cons_zero, List.set_cons_succ])
  refine wpTake_nil ?_
  refine H0.tst 16 2 rfl rfl (by kernel_rfl) (by kernel_rfl) rfl rfl rfl rfl rfl fun w1 H1 => ?_
  clear H0 hk
  go_wp2
  exact H1.ret 2 rfl rfl rfl rfl rfl

set_option maxRecDepth 100000 in
set_option maxHeartbeats 4000000 in
theorem lNeg6 (a : List Int) (ha : Nm 36 a) (w : World) (hG : Glob w) : Calls Tryd.prog 16 #[.agg (vals .u64 a)] w fun e w' => e = .returned (.agg (vals .u64 (F6 (Fp6.hn (v6 a))))) ∧ Below w.heap.size w w' := by
  have : Nw 36 a := ⟨ha⟩
  obtain ⟨S, hS⟩ : ∃ S, w.heap.size = S := ⟨_, rfl⟩
  obtain ⟨w0, H0, hw⟩ := kn2 hS (vals .u64 a) 28 (vals .u64 Fp6.Z36) 28
  have HG := keepB hS hG Glob.keep
  clear hG
  rw [hS]
  go_enter Tryd.func16, Tryd.ntmps16
  go_wp2
  refine wp_at hw ?_
  clear hw
  refine H0.reads 10 1 1 rfl (by kernel_rfl) (fun _ _ d _ _ h => by cases d <;> exact h) ?_
  have hk := fun u => H0.upG (y := u) 1 rfl HG
  simp only [List.take_succ_cons, List.take_zero]
  repeat (refine tstep ?_; (first
    | refine H0.ldw 0 1 rfl rfl rfl rfl rfl rfl ?_ | refine H0.ld 0 1 rfl rfl rfl rfl rfl rfl (by decide) ?_
    | refine tbuild rfl rfl b36 ?_
    | refine tcall (fun u hw => (by unfold Oper.quietAt; go_simp; with_reducible first | refine lRed2 _ nw _ (hk _ hw) | refine lSub2 _ nw _ nw _ (hk _ hw) | refine lMul2 _ nw _ nw _ (hk _ hw) | refine lNeg2 _ nw _ (hk _ hw) | refine lXi2 _ nw _ (hk _ hw) | refine sum_n nw nw _ (hk _ hw))) rfl ?_
    | refine tpure rfl (fun u => by first | (go_simp; done) | (go_simp; with_reducible rfl)) ?_); simp only [List.getElem_toArray, List.getElem_cons_zero, List.getElem_cons_succ, Act.put, List.setIfInBounds_toArray, List.set_cons_zero, List.set_cons_succ])
  refine wpTake_nil ?_
  refine H0.tst 10 1 rfl rfl (by kernel_rfl) (by kernel_rfl) rfl rfl rfl rfl rfl fun w1 H1 => ?_
  clear H0 hk
  go_wp2
  exact H1.ret 1 rfl rfl rfl rfl rfl

set_option maxRecDepth 100000 in
set_option maxHeartbeats 4000000 in
theorem lScale6 (a : List Int) (ha : Nm 36 a) (k : List Int) (hk : Nm 12 k) (w : World) (hG : Glob w) : Calls Tryd.prog 18 #[.agg (vals .u64 a), .agg (vals .u64 k)] w fun e w' => e = .returned (.agg (vals .u64 (F6 (Fp6.hk (v6 a) (v2 k))))) ∧ Below w.heap.size w w' := by
  have : Nw 36 a := ⟨ha⟩
  have : Nw 12 k := ⟨hk⟩
  obtain ⟨S, hS⟩ : ∃ S, w.heap.size = S := ⟨_, rfl⟩
  obtain ⟨w0, H0, hw⟩ := kn3 hS (vals .u64 a) 28 (vals .u64 k) 26 (vals .u64 Fp6.Z36) 28
  have HG := keepB hS hG Glob.keep
  clear hG
  rw [hS]
  go_enter Tryd.func18, Tryd.ntmps18
  go_wp2
  refine wp_at hw ?_
  clear hw
  refine H0.reads 13 1 2 rfl (by kernel_rfl) (fun _ _ d _ _ h => by cases d <;> exact h) ?_
  have hk := fun u => H0.upG (y := u) 2 rfl HG
  simp only [List.take_succ_cons, List.take_zero]
  repeat (refine tstep ?_; (first
    | refine H0.ldw 0 2 rfl rfl rfl rfl rfl rfl ?_ | refine H0.ld 0 2 rfl rfl rfl rfl rfl rfl (by decide) ?_
    | refine H0.ldw 1 2 rfl rfl rfl rfl rfl rfl ?_ | refine H0.ld 1 2 rfl rfl rfl rfl rfl rfl (by decide) ?_
    | refine tbuild rfl rfl b36 ?_
    | refine tcall (fun u hw => (by unfold Oper.quietAt; go_simp; with_reducible first | refine lRed2 _ nw _ (hk _ hw) | refine lSub2 _ nw _ nw _ (hk _ hw) | refine lMul2 _ nw _ nw _ (hk _ hw) | refine lNeg2 _ nw _ (hk _ hw) | refine lXi2 _ nw _ (hk _ hw) | refine sum_n nw nw _ (hk _ hw))) rfl ?_
    | refine tpure rfl (fun u => by first | (go_simp; done) | (go_simp; with_reducible rfl)) ?_); simp only [List.getElem_toArray, List.getElem_cons_zero, List.getElem_cons_succ, Act.put, List.setIfInBounds_toArray, List.set_cons_zero, List.set_cons_succ])
  refine wpTake_nil ?_
  refine H0.tst 13 2 rfl rfl (by kernel_rfl) (by kernel_rfl) rfl rfl rfl rfl rfl fun w1 H1 => ?_
  clear H0 hk
  go_wp2
  exact H1.ret 2 rfl rfl rfl rfl rfl

set_option maxRecDepth 100000 in
set_option maxHeartbeats 4000000 in
theorem lV6 (a : List Int) (ha : Nm 36 a) (w : World) (hG : Glob w) : Calls Tryd.prog 24 #[.agg (vals .u64 a)] w fun e w' => e = .returned (.agg (vals .u64 (F6 (hv (v6 a))))) ∧ Below w.heap.size w w' := by
  have : Nw 36 a := ⟨ha⟩
  obtain ⟨S, hS⟩ : ∃ S, w.heap.size = S := ⟨_, rfl⟩
  obtain ⟨w0, H0, hw⟩ := kn2 hS (vals .u64 a) 28 (vals .u64 Fp6.Z36) 28
  have HG := keepB hS hG Glob.keep
  clear hG
  rw [hS]
  go_enter Tryd.func24, Tryd.ntmps24
  go_wp2
  refine wp_at hw ?_
  clear hw
  refine H0.reads 10 1 1 rfl (by kernel_rfl) (fun _ _ d _ _ h => by cases d <;> exact h) ?_
  have hk := fun u => H0.upG (y := u) 1 rfl HG
  simp only [List.take_succ_cons, List.take_zero]
  repeat (refine tstep ?_; (first
    | refine H0.ldw 0 1 rfl rfl rfl rfl rfl rfl ?_ | refine H0.ld 0 1 rfl rfl rfl rfl rfl rfl (by decide) ?_
    | refine tbuild rfl rfl b36 ?_
    | refine tcall (fun u hw => (by unfold Oper.quietAt; go_simp; with_reducible first | refine lRed2 _ nw _ (hk _ hw) | refine lSub2 _ nw _ nw _ (hk _ hw) | refine lMul2 _ nw _ nw _ (hk _ hw) | refine lNeg2 _ nw _ (hk _ hw) | refine lXi2 _ nw _ (hk _ hw) | refine sum_n nw nw _ (hk _ hw))) rfl ?_
    | refine tpure rfl (fun u => by first | (go_simp; done) | (go_simp; with_reducible rfl)) ?_); simp only [List.getElem_toArray, List.getElem_cons_zero, List.getElem_cons_succ, Act.put, List.setIfInBounds_toArray, List.set_cons_zero, List.set_cons_succ])
  refine wpTake_nil ?_
  refine H0.tst 10 1 rfl rfl (by kernel_rfl) (by kernel_rfl) rfl rfl rfl rfl rfl fun w1 H1 => ?_
  clear H0 hk
  go_wp2
  exact H1.ret 1 rfl rfl rfl rfl rfl

/-- What two places have crosswise. -/
def crw (x y o : List Int) (i j : Nat) : List Int := F2 (gs (v2 (F2 (gm (v2 (F2 (ga (v2 (seg i 12 x)) (v2 (seg j 12 x))))) (v2 (F2 (ga (v2 (seg i 12 y)) (v2 (seg j 12 y)))))))) (v2 (F2 (ga (v2 (seg i 12 o)) (v2 (seg j 12 o))))))
instance {x y o : List Int} {i j : Nat} : Nw 12 (crw x y o i j) := ⟨.F2 _⟩
theorem cross (x y z t : G) : gs (gm (ga x y) (ga z t)) (ga (gm x z) (gm y t)) = ga (gm x t) (gm y z) := by
  obtain ⟨x0, x1⟩ := x; obtain ⟨y0, y1⟩ := y; obtain ⟨z0, z1⟩ := z; obtain ⟨t0, t1⟩ := t
  apply Prod.ext <;> simp only [gs, gm, ga] <;> grind
theorem crw_v {x y o : List Int} {i j : Nat} (hi : E2 (v2 (seg i 12 o)) (gm (v2 (seg i 12 x)) (v2 (seg i 12 y)))) (hj : E2 (v2 (seg j 12 o)) (gm (v2 (seg j 12 x)) (v2 (seg j 12 y)))) :
    E2 (v2 (crw x y o i j)) (ga (gm (v2 (seg i 12 x)) (v2 (seg j 12 y))) (gm (v2 (seg j 12 x)) (v2 (seg i 12 y)))) := by
  refine (v2_F2 _).trans ?_
  rw [← cross]
  exact gs_congr ((v2_F2 _).trans (gm_congr (v2_F2 _) (v2_F2 _))) ((v2_F2 _).trans (ga_congr hi hj))
/-- The places' own products. -/
def ow (a b : List Int) : List Int := F6 (gm (v2 (seg 0 12 a)) (v2 (seg 0 12 b)), gm (v2 (seg 12 12 a)) (v2 (seg 12 12 b)), gm (v2 (seg 24 12 a)) (v2 (seg 24 12 b)))
instance {a b : List Int} : Nw 36 (ow a b) := ⟨Fp6.Nm.F6 _⟩
theorem ga_swap (x y z : G) : ga (ga x z) y = ga (ga x y) z := by rw [ga_assoc, ga_comm z y, ← ga_assoc]
theorem mul_v (a b : List Int) : F2 (ga (v2 (seg 0 12 (ow a b))) (v2 (F2 (gm (v2 (crw a b (ow a b) 12 24)) (1, 1))))) ++ F2 (ga (v2 (crw a b (ow a b) 0 12)) (v2 (F2 (gm (v2 (seg 24 12 (ow a b))) (1, 1))))) ++ F2 (ga (v2 (crw a b (ow a b) 0 24)) (v2 (seg 12 12 (ow a b)))) = F6 (hm (v6 a) (v6 b)) := by
  have o0 : E2 (v2 (seg 0 12 (ow a b))) (gm (v2 (seg 0 12 a)) (v2 (seg 0 12 b))) := by rw [ow, seg_F6a]; exact v2_F2 _
  have o1 : E2 (v2 (seg 12 12 (ow a b))) (gm (v2 (seg 12 12 a)) (v2 (seg 12 12 b))) := by rw [ow, seg_F6b]; exact v2_F2 _
  have o2 : E2 (v2 (seg 24 12 (ow a b))) (gm (v2 (seg 24 12 a)) (v2 (seg 24 12 b))) := by rw [ow, seg_F6c]; exact v2_F2 _
  rw [F6]
  rw [F2_eq (ga_congr o0 ((v2_F2 _).trans (gm_congr (crw_v o1 o2) E2.rfl))), F2_eq (ga_congr (crw_v o0 o1) ((v2_F2 _).trans (gm_congr o2 E2.rfl))), F2_eq (ga_congr (crw_v o0 o2) o1)]
  have e3 : (hm (v6 a) (v6 b)).2.2 = ga (ga (gm (v2 (seg 0 12 a)) (v2 (seg 24 12 b))) (gm (v2 (seg 24 12 a)) (v2 (seg 0 12 b)))) (gm (v2 (seg 12 12 a)) (v2 (seg 12 12 b))) := ga_swap _ _ _
  rw [e3]
  rfl

set_option maxRecDepth 100000 in
set_option maxHeartbeats 4000000 in
theorem crw_12 (x : List Int) (hx : Nm 36 x) (y : List Int) (hy : Nm 36 y) (o : List Int) (ho : Nm 36 o) (kx ky ko : Nat) (w : World) (hG : Glob w) (qx : Has w kx 42 (vals .u64 x)) (qy : Has w ky 42 (vals .u64 y)) (qo : Has w ko 42 (vals .u64 o)) : Calls Tryd.prog 39 #[.int .i64 1, .int .i64 2, .pointer (some ⟨kx, 0, none⟩), .pointer (some ⟨ky, 0, none⟩), .pointer (some ⟨ko, 0, none⟩)] w fun e w' => e = .returned (.agg (vals .u64 (crw x y o 12 24))) ∧ Below w.heap.size w w' := by
  have : Nw 36 x := ⟨hx⟩
  have : Nw 36 y := ⟨hy⟩
  have : Nw 36 o := ⟨ho⟩
  obtain ⟨S, hS⟩ : ∃ S, w.heap.size = S := ⟨_, rfl⟩
  obtain ⟨w0, H0, hw⟩ := kn1 hS (vals .u64 Fp2.Z12) 26
  have HG := keepB hS hG Glob.keep
  clear hG
  have Qx := keepB hS qx Has.keep
  clear qx
  have Qy := keepB hS qy Has.keep
  clear qy
  have Qo := keepB hS qo Has.keep
  clear qo
  rw [hS]
  go_enter Tryd.func39, Tryd.ntmps39
  go_wp2
  refine wp_at hw ?_
  clear hw
  refine H0.reads 23 1 0 rfl (by kernel_rfl) (fun _ _ d _ _ h => by cases d <;> exact h) ?_
  have hk := fun u => H0.upG (y := u) 0 rfl HG
  simp only [List.take_succ_cons, List.take_zero]
  repeat (refine tstep ?_; (first
    | refine tld (fun u hw => H0.upG (y := u) 0 rfl Qx hw) rfl rfl rfl (by decide) ?_
    | refine tld (fun u hw => H0.upG (y := u) 0 rfl Qy hw) rfl rfl rfl (by decide) ?_
    | refine tld (fun u hw => H0.upG (y := u) 0 rfl Qo hw) rfl rfl rfl (by decide) ?_
    | refine tcall (fun u hw => (by unfold Oper.quietAt; go_simp; with_reducible first | refine lRed2 _ nw _ (hk _ hw) | refine lSub2 _ nw _ nw _ (hk _ hw) | refine lMul2 _ nw _ nw _ (hk _ hw) | refine lNeg2 _ nw _ (hk _ hw) | refine lXi2 _ nw _ (hk _ hw) | refine sum_n nw nw _ (hk _ hw))) rfl ?_
    | refine tpure rfl (fun u => by first | (go_simp; done) | (go_simp; with_reducible rfl)) ?_); simp only [List.getElem_toArray, List.getElem_cons_zero, List.getElem_cons_succ, Act.put, List.setIfInBounds_toArray, List.set_cons_zero, List.set_cons_succ])
  refine wpTake_nil ?_
  refine H0.tst 23 0 rfl rfl (by kernel_rfl) (by kernel_rfl) rfl rfl rfl rfl rfl fun w1 H1 => ?_
  clear H0 hk
  go_wp2
  exact H1.ret 0 rfl rfl rfl rfl rfl

set_option maxRecDepth 100000 in
set_option maxHeartbeats 4000000 in
theorem crw_01 (x : List Int) (hx : Nm 36 x) (y : List Int) (hy : Nm 36 y) (o : List Int) (ho : Nm 36 o) (kx ky ko : Nat) (w : World) (hG : Glob w) (qx : Has w kx 42 (vals .u64 x)) (qy : Has w ky 42 (vals .u64 y)) (qo : Has w ko 42 (vals .u64 o)) : Calls Tryd.prog 39 #[.int .i64 0, .int .i64 1, .pointer (some ⟨kx, 0, none⟩), .pointer (some ⟨ky, 0, none⟩), .pointer (some ⟨ko, 0, none⟩)] w fun e w' => e = .returned (.agg (vals .u64 (crw x y o 0 12))) ∧ Below w.heap.size w w' := by
  have : Nw 36 x := ⟨hx⟩
  have : Nw 36 y := ⟨hy⟩
  have : Nw 36 o := ⟨ho⟩
  obtain ⟨S, hS⟩ : ∃ S, w.heap.size = S := ⟨_, rfl⟩
  obtain ⟨w0, H0, hw⟩ := kn1 hS (vals .u64 Fp2.Z12) 26
  have HG := keepB hS hG Glob.keep
  clear hG
  have Qx := keepB hS qx Has.keep
  clear qx
  have Qy := keepB hS qy Has.keep
  clear qy
  have Qo := keepB hS qo Has.keep
  clear qo
  rw [hS]
  go_enter Tryd.func39, Tryd.ntmps39
  go_wp2
  refine wp_at hw ?_
  clear hw
  refine H0.reads 23 1 0 rfl (by kernel_rfl) (fun _ _ d _ _ h => by cases d <;> exact h) ?_
  have hk := fun u => H0.upG (y := u) 0 rfl HG
  simp only [List.take_succ_cons, List.take_zero]
  repeat (refine tstep ?_; (first
    | refine tld (fun u hw => H0.upG (y := u) 0 rfl Qx hw) rfl rfl rfl (by decide) ?_
    | refine tld (fun u hw => H0.upG (y := u) 0 rfl Qy hw) rfl rfl rfl (by decide) ?_
    | refine tld (fun u hw => H0.upG (y := u) 0 rfl Qo hw) rfl rfl rfl (by decide) ?_
    | refine tcall (fun u hw => (by unfold Oper.quietAt; go_simp; with_reducible first | refine lRed2 _ nw _ (hk _ hw) | refine lSub2 _ nw _ nw _ (hk _ hw) | refine lMul2 _ nw _ nw _ (hk _ hw) | refine lNeg2 _ nw _ (hk _ hw) | refine lXi2 _ nw _ (hk _ hw) | refine sum_n nw nw _ (hk _ hw))) rfl ?_
    | refine tpure rfl (fun u => by first | (go_simp; done) | (go_simp; with_reducible rfl)) ?_); simp only [List.getElem_toArray, List.getElem_cons_zero, List.getElem_cons_succ, Act.put, List.setIfInBounds_toArray, List.set_cons_zero, List.set_cons_succ])
  refine wpTake_nil ?_
  refine H0.tst 23 0 rfl rfl (by kernel_rfl) (by kernel_rfl) rfl rfl rfl rfl rfl fun w1 H1 => ?_
  clear H0 hk
  go_wp2
  exact H1.ret 0 rfl rfl rfl rfl rfl

set_option maxRecDepth 100000 in
set_option maxHeartbeats 4000000 in
theorem crw_02 (x : List Int) (hx : Nm 36 x) (y : List Int) (hy : Nm 36 y) (o : List Int) (ho : Nm 36 o) (kx ky ko : Nat) (w : World) (hG : Glob w) (qx : Has w kx 42 (vals .u64 x)) (qy : Has w ky 42 (vals .u64 y)) (qo : Has w ko 42 (vals .u64 o)) : Calls Tryd.prog 39 #[.int .i64 0, .int .i64 2, .pointer (some ⟨kx, 0, none⟩), .pointer (some ⟨ky, 0, none⟩), .pointer (some ⟨ko, 0, none⟩)] w fun e w' => e = .returned (.agg (vals .u64 (crw x y o 0 24))) ∧ Below w.heap.size w w' := by
  have : Nw 36 x := ⟨hx⟩
  have : Nw 36 y := ⟨hy⟩
  have : Nw 36 o := ⟨ho⟩
  obtain ⟨S, hS⟩ : ∃ S, w.heap.size = S := ⟨_, rfl⟩
  obtain ⟨w0, H0, hw⟩ := kn1 hS (vals .u64 Fp2.Z12) 26
  have HG := keepB hS hG Glob.keep
  clear hG
  have Qx := keepB hS qx Has.keep
  clear qx
  have Qy := keepB hS qy Has.keep
  clear qy
  have Qo := keepB hS qo Has.keep
  clear qo
  rw [hS]
  go_enter Tryd.func39, Tryd.ntmps39
  go_wp2
  refine wp_at hw ?_
  clear hw
  refine H0.reads 23 1 0 rfl (by kernel_rfl) (fun _ _ d _ _ h => by cases d <;> exact h) ?_
  have hk := fun u => H0.upG (y := u) 0 rfl HG
  simp only [List.take_succ_cons, List.take_zero]
  repeat (refine tstep ?_; (first
    | refine tld (fun u hw => H0.upG (y := u) 0 rfl Qx hw) rfl rfl rfl (by decide) ?_
    | refine tld (fun u hw => H0.upG (y := u) 0 rfl Qy hw) rfl rfl rfl (by decide) ?_
    | refine tld (fun u hw => H0.upG (y := u) 0 rfl Qo hw) rfl rfl rfl (by decide) ?_
    | refine tcall (fun u hw => (by unfold Oper.quietAt; go_simp; with_reducible first | refine lRed2 _ nw _ (hk _ hw) | refine lSub2 _ nw _ nw _ (hk _ hw) | refine lMul2 _ nw _ nw _ (hk _ hw) | refine lNeg2 _ nw _ (hk _ hw) | refine lXi2 _ nw _ (hk _ hw) | refine sum_n nw nw _ (hk _ hw))) rfl ?_
    | refine tpure rfl (fun u => by first | (go_simp; done) | (go_simp; with_reducible rfl)) ?_); simp only [List.getElem_toArray, List.getElem_cons_zero, List.getElem_cons_succ, Act.put, List.setIfInBounds_toArray, List.set_cons_zero, List.set_cons_succ])
  refine wpTake_nil ?_
  refine H0.tst 23 0 rfl rfl (by kernel_rfl) (by kernel_rfl) rfl rfl rfl rfl rfl fun w1 H1 => ?_
  clear H0 hk
  go_wp2
  exact H1.ret 0 rfl rfl rfl rfl rfl

set_option maxRecDepth 100000 in
set_option maxHeartbeats 4000000 in
theorem lMul6 (a : List Int) (ha : Nm 36 a) (b : List Int) (hb : Nm 36 b) (w : World) (hG : Glob w) : Calls Tryd.prog 20 #[.agg (vals .u64 a), .agg (vals .u64 b)] w fun e w' => e = .returned (.agg (vals .u64 (F6 (hm (v6 a) (v6 b))))) ∧ Below w.heap.size w w' := by
  have : Nw 36 a := ⟨ha⟩
  have : Nw 36 b := ⟨hb⟩
  have hmf : ∀ (fn : Fn) (first cap : Array Value) (w : World), (Instr.makeFunc fn first cap).run Tryd.prog w = .ok (.func fn first cap) w := fun _ _ _ _ => rfl
  have LA : Keep (Nm 36 a) := ⟨ha⟩
  have LB : Keep (Nm 36 b) := ⟨hb⟩
  obtain ⟨S, hS⟩ : ∃ S, w.heap.size = S := ⟨_, rfl⟩
  obtain ⟨w0, H0, hw⟩ := kn3 hS (vals .u64 a) 28 (vals .u64 b) 28 (vals .u64 Fp6.Z36) 28
  have HG := keepB hS hG Glob.keep
  clear hG
  rw [hS]
  go_enter Tryd.func20, Tryd.ntmps20
  go_wp2
  refine wp_at hw ?_
  clear hw
  refine H0.quiet 14 4 (by kernel_rfl) (fun _ _ d _ _ h => by cases d <;> exact h) ?_
  simp only [List.take_succ_cons, List.take_zero]
  repeat (refine tstep ?_; (first
    | refine H0.ldwq 0 rfl rfl rfl rfl ?_ | refine H0.ldq 0 rfl rfl rfl rfl (by decide) ?_
    | refine H0.ldwq 1 rfl rfl rfl rfl ?_ | refine H0.ldq 1 rfl rfl rfl rfl (by decide) ?_
    | refine H0.ldwq 2 rfl rfl rfl rfl ?_ | refine H0.ldq 2 rfl rfl rfl rfl (by decide) ?_
    | refine tbuild rfl rfl (build33 LA.out) ?_
    | refine tbuild rfl rfl (build33 LB.out) ?_
    | refine tpure rfl (fun u => by first | (go_simp; done) | (go_simp; with_reducible rfl)) ?_); simp only [List.getElem_toArray, List.getElem_cons_zero, List.getElem_cons_succ, Act.put, List.setIfInBounds_toArray, List.set_cons_zero, List.set_cons_succ])
  refine wpTake_nil ?_
  refine H0.uvars 14 15 5 6 42 42 (vals .u64 Z36) (vals .u64 Z36) ?_ ?_ rfl rfl (by kernel_rfl) fun y gx gy G1 hy _ _ => ?_
  · exact ⟨⟨_, rfl, rfl, rfl, rfl⟩, ⟨_, _, rfl, rfl, by kernel_rfl⟩⟩
  · exact ⟨⟨_, rfl, rfl, rfl, rfl⟩, ⟨_, _, rfl, rfl, by kernel_rfl⟩⟩
  simp only [List.getElem_toArray, List.getElem_cons_zero, List.getElem_cons_succ, Act.put, List.setIfInBounds_toArray, List.set_cons_zero, List.set_cons_succ]
  refine G1.ust hy 16 3 rfl (by kernel_rfl) rfl (by assumption) rfl rfl rfl rfl rfl rfl fun y G2 hy => ?_
  clear G1
  refine G2.ust hy 17 4 rfl (by kernel_rfl) rfl (by assumption) rfl rfl rfl rfl rfl rfl fun y G3 hy => ?_
  clear G2
  refine G3.uend (by kernel_rfl) fun w1 H1 => ?_
  clear G3 H0
  go_wp2
  refine H1.quiet 16 2 (by kernel_rfl) (fun _ _ d _ _ h => by cases d <;> exact h) ?_
  have hk := fun u => H1.upqG (y := u) HG
  simp only [List.take_succ_cons, List.take_zero]
  repeat (refine tstep ?_; (first
    | refine H1.ldwq 0 rfl rfl rfl rfl ?_ | refine H1.ldq 0 rfl rfl rfl rfl (by decide) ?_
    | refine H1.ldwq 1 rfl rfl rfl rfl ?_ | refine H1.ldq 1 rfl rfl rfl rfl (by decide) ?_
    | refine H1.ldwq 2 rfl rfl rfl rfl ?_ | refine H1.ldq 2 rfl rfl rfl rfl (by decide) ?_
    | refine H1.ldwq 3 rfl rfl rfl rfl ?_ | refine H1.ldq 3 rfl rfl rfl rfl (by decide) ?_
    | refine H1.ldwq 4 rfl rfl rfl rfl ?_ | refine H1.ldq 4 rfl rfl rfl rfl (by decide) ?_
    | refine tbuild rfl rfl b33 ?_
    | refine tcall (fun u hw => (by unfold Oper.quietAt; go_simp; with_reducible first | refine lMul2 _ nw _ nw _ (hk _ hw))) rfl ?_
    | refine tpure rfl (fun u => by first | (go_simp; done) | (go_simp; with_reducible rfl)) ?_); simp only [List.getElem_toArray, List.getElem_cons_zero, List.getElem_cons_succ, Act.put, List.setIfInBounds_toArray, List.set_cons_zero, List.set_cons_succ])
  refine wpTake_nil ?_
  refine H1.tnew 16 rfl rfl (by kernel_rfl) (by kernel_rfl) (by kernel_rfl) rfl rfl rfl rfl rfl rfl (fun _ => rfl) (fun _ => rfl) ⟨_, _, rfl, rfl, rfl⟩ (by kernel_rfl) fun w2 gc H2 => ?_
  clear H1 hk
  simp only [List.getElem_toArray, List.getElem_cons_zero, List.getElem_cons_succ, Act.put, List.setIfInBounds_toArray, List.set_cons_zero, List.set_cons_succ]
  rw [show (F2 (gm (v2 (seg 0 12 a)) (v2 (seg 0 12 b))) ++ F2 (gm (v2 (seg 12 12 a)) (v2 (seg 12 12 b))) ++ F2 (gm (v2 (seg 24 12 a)) (v2 (seg 24 12 b)))) = ow a b from rfl] at H2
  obtain ⟨T, hT⟩ : ∃ T, ow a b = T := ⟨_, rfl⟩
  have nT : Nw 36 T := hT ▸ inferInstance
  have HM := mul_v a b
  rw [hT] at HM H2
  clear hT
  go_wp2
  have qx := fun u (hw : But (S + 2) w2 u) => hw.has (H2.mem (j := 3) rfl) (H2.ne (j := 2) rfl (k := 3) rfl (by decide))
  have qy := fun u (hw : But (S + 2) w2 u) => hw.has (H2.mem (j := 4) rfl) (H2.ne (j := 2) rfl (k := 4) rfl (by decide))
  have qc := fun u (hw : But (S + 2) w2 u) => hw.has (H2.mem (j := 5) rfl) (H2.ne (j := 2) rfl (k := 5) rfl (by decide))
  refine H2.reads 18 1 2 rfl (by kernel_rfl) (fun _ _ d _ _ h => by cases d <;> exact h) ?_
  have hk := fun u => H2.upG (y := u) 2 rfl HG
  simp only [List.take_succ_cons, List.take_zero]
  repeat (refine tstep ?_; (first
    | refine H2.ldw 0 2 rfl rfl rfl rfl rfl rfl ?_ | refine H2.ld 0 2 rfl rfl rfl rfl rfl rfl (by decide) ?_
    | refine H2.ldw 1 2 rfl rfl rfl rfl rfl rfl ?_ | refine H2.ld 1 2 rfl rfl rfl rfl rfl rfl (by decide) ?_
    | refine H2.ldw 3 2 rfl rfl rfl rfl rfl rfl ?_ | refine H2.ld 3 2 rfl rfl rfl rfl rfl rfl (by decide) ?_
    | refine H2.ldw 4 2 rfl rfl rfl rfl rfl rfl ?_ | refine H2.ld 4 2 rfl rfl rfl rfl rfl rfl (by decide) ?_
    | refine H2.ldw 5 2 rfl rfl rfl rfl rfl rfl ?_ | refine H2.ld 5 2 rfl rfl rfl rfl rfl rfl (by decide) ?_
    | refine tbuild rfl rfl b36 ?_
    | refine tcall (fun u hw => (by unfold Oper.quietAt; go_simp; with_reducible first | refine lXi2 _ nw _ (hk _ hw) | refine sum_n nw nw _ (hk _ hw) | refine crw_12 a LA.out b LB.out T nT.nm gx gy gc _ (hk _ hw) (qx _ hw) (qy _ hw) (qc _ hw) | refine crw_01 a LA.out b LB.out T nT.nm gx gy gc _ (hk _ hw) (qx _ hw) (qy _ hw) (qc _ hw) | refine crw_02 a LA.out b LB.out T nT.nm gx gy gc _ (hk _ hw) (qx _ hw) (qy _ hw) (qc _ hw))) rfl ?_
    | refine tpure rfl (fun u => by first | (go_simp; done) | (go_simp; with_reducible rfl)) ?_); simp only [List.getElem_toArray, List.getElem_cons_zero, List.getElem_cons_succ, Act.put, List.setIfInBounds_toArray, List.set_cons_zero, List.set_cons_succ])
  refine wpTake_nil ?_
  refine H2.tst 18 2 rfl rfl (by kernel_rfl) (by kernel_rfl) rfl rfl rfl rfl rfl fun w3 H3 => ?_
  clear H2 hk
  go_wp2
  exact H3.ret 2 rfl rfl rfl rfl HM

theorem mk1 {x : List Int} [h : Nw 12 x] (y : World) : (Instr.buildSlice 50 1 #[(0, .agg (vals .u64 x))]).run Tryd.prog y = .ok (.slice (some ⟨y.heap.size, 0, none⟩) 1 1) (y.alloc (.cells (vals .u64 x) 26)) := by
  obtain ⟨ie, z, h1, h2, h3, h4⟩ : ∃ ie z, Tryd.prog.info? 26 = some ie ∧ ie.zero = some z ∧ ie.size = 12 ∧ (Array.range (1 * 12)).map (z.cells[· % z.cells.size]!) = vals .u64 (List.replicate 12 0) := ⟨_, _, rfl, rfl, rfl, by kernel_rfl⟩
  refine run_buildSlice y _ _ 1 _ (vals .u64 x) ie z Tryd.underlying50 h1 h2 (by rw [h3]; decide) (by rw [h3]; decide) ?_
  rw [h3, h4]
  show Instr.fill _ _ [(0, .agg (vals .u64 x))] = _
  rw [fill_part (off := 0) (n := 12) rfl h.nm.len (by simp)]
  simp [Instr.fill]
theorem hc_v (a : List Int) : F2 (gs (v2 (F2 (gm (v2 (seg 0 12 a)) (v2 (seg 0 12 a))))) (v2 (F2 (gm (v2 (F2 (gm (v2 (seg 12 12 a)) (v2 (seg 24 12 a))))) (1, 1))))) ++ F2 (gs (v2 (F2 (gm (v2 (F2 (gm (v2 (seg 24 12 a)) (v2 (seg 24 12 a))))) (1, 1)))) (v2 (F2 (gm (v2 (seg 0 12 a)) (v2 (seg 12 12 a)))))) ++ F2 (gs (v2 (F2 (gm (v2 (seg 12 12 a)) (v2 (seg 12 12 a))))) (v2 (F2 (gm (v2 (seg 0 12 a)) (v2 (seg 24 12 a)))))) = F6 (Fp6.hc (v6 a)) := by
  rw [F6, F2_eq (gs_congr (v2_F2 _) ((v2_F2 _).trans (gm_congr (v2_F2 _) E2.rfl))), F2_eq (gs_congr ((v2_F2 _).trans (gm_congr (v2_F2 _) E2.rfl)) (v2_F2 _)), F2_eq (gs_congr (v2_F2 _) (v2_F2 _))]
  rfl
/-- The norm, as it is reckoned. -/
def nrm (a : List Int) : List Int := F2 (ga (v2 (F2 (ga (v2 (F2 (gm (v2 (seg 0 12 a)) (v2 (seg 0 12 (F6 (Fp6.hc (v6 a)))))))) (v2 (F2 (gm (v2 (F2 (gm (v2 (seg 12 12 a)) (v2 (seg 24 12 (F6 (Fp6.hc (v6 a)))))))) (1, 1))))))) (v2 (F2 (gm (v2 (F2 (gm (v2 (seg 24 12 a)) (v2 (seg 12 12 (F6 (Fp6.hc (v6 a)))))))) (1, 1)))))
instance {a : List Int} : Nw 12 (nrm a) := ⟨.F2 _⟩
theorem nrm_v (a : List Int) : E2 (v2 (nrm a)) (hm (v6 a) (Fp6.hc (v6 a))).1 := by
  refine (v2_F2 _).trans ?_
  have e : (hm (v6 a) (Fp6.hc (v6 a))).1 = ga (ga (gm (v6 a).1 (Fp6.hc (v6 a)).1) (gm (gm (v6 a).2.1 (Fp6.hc (v6 a)).2.2) (1, 1))) (gm (gm (v6 a).2.2 (Fp6.hc (v6 a)).2.1) (1, 1)) := by
    rw [hm]
    generalize v6 a = p
    generalize Fp6.hc p = q
    obtain ⟨⟨a0, a1⟩, ⟨b0, b1⟩, c0, c1⟩ := p
    obtain ⟨⟨d0, d1⟩, ⟨e0, e1⟩, f0, f1⟩ := q
    apply Prod.ext <;> simp only [gx, ga, gm] <;> grind
  rw [e, seg_F6a, seg_F6b, seg_F6c]
  exact ga_congr ((v2_F2 _).trans (ga_congr ((v2_F2 _).trans (gm_congr E2.rfl (v2_F2 _))) ((v2_F2 _).trans (gm_congr ((v2_F2 _).trans (gm_congr E2.rfl (v2_F2 _))) E2.rfl)))) ((v2_F2 _).trans (gm_congr ((v2_F2 _).trans (gm_congr E2.rfl (v2_F2 _))) E2.rfl))
theorem inv_v (a : List Int) : F6 (Fp6.hk (v6 (F6 (Fp6.hc (v6 a)))) (v2 (F2 (gi (v2 (nrm a)))))) = F6 (hi (v6 a)) := F6_eq (hk_congr (v6_F6 _) ((v2_F2 _).trans (gi_congr (nrm_v a))))

set_option maxRecDepth 100000 in
set_option maxHeartbeats 4000000 in
theorem lInv6 (a : List Int) (ha : Nm 36 a) (w : World) (hG : GlobD w) : Calls Tryd.prog 22 #[.agg (vals .u64 a)] w fun e w' => e = .returned (.agg (vals .u64 (F6 (hi (v6 a))))) ∧ Below w.heap.size w w' := by
  have : Nw 36 a := ⟨ha⟩
  obtain ⟨S, hS⟩ : ∃ S, w.heap.size = S := ⟨_, rfl⟩
  obtain ⟨w0, H0, hw⟩ := kn2 hS (vals .u64 a) 28 (vals .u64 Fp6.Z36) 28
  have HD := keepB hS hG GlobD.keep
  have HG : Keep (∀ x, Below S w x → Glob x) := ⟨fun x hb => (HD.out x hb).toGlob⟩
  clear hG
  rw [hS]
  go_enter Tryd.func22, Tryd.ntmps22
  go_wp2
  refine wp_at hw ?_
  clear hw
  refine H0.quiet 36 2 (by kernel_rfl) (fun _ _ d _ _ h => by cases d <;> exact h) ?_
  have hk := fun u => H0.upqG (y := u) HG
  simp only [List.take_succ_cons, List.take_zero]
  repeat (refine tstep ?_; (first
    | refine H0.ldwq 0 rfl rfl rfl rfl ?_ | refine H0.ldq 0 rfl rfl rfl rfl (by decide) ?_
    | refine H0.ldwq 1 rfl rfl rfl rfl ?_ | refine H0.ldq 1 rfl rfl rfl rfl (by decide) ?_
    | refine tbuild rfl rfl b36 ?_
    | refine tcall (fun u hw => (by unfold Oper.quietAt; go_simp; with_reducible first | refine lRed2 _ nw _ (hk _ hw) | refine lSub2 _ nw _ nw _ (hk _ hw) | refine lMul2 _ nw _ nw _ (hk _ hw) | refine lNeg2 _ nw _ (hk _ hw) | refine lXi2 _ nw _ (hk _ hw) | refine sum_n nw nw _ (hk _ hw))) rfl ?_
    | refine tpure rfl (fun u => by first | (go_simp; done) | (go_simp; with_reducible rfl)) ?_); simp only [List.getElem_toArray, List.getElem_cons_zero, List.getElem_cons_succ, Act.put, List.setIfInBounds_toArray, List.set_cons_zero, List.set_cons_succ])
  refine wpTake_nil ?_
  refine H0.tnew 36 rfl rfl (by kernel_rfl) (by kernel_rfl) (by kernel_rfl) rfl rfl rfl rfl rfl rfl (fun _ => rfl) (fun _ => rfl) ⟨_, _, rfl, rfl, rfl⟩ (by kernel_rfl) fun w1 gc H1 => ?_
  clear H0 hk
  simp only [List.getElem_toArray, List.getElem_cons_zero, List.getElem_cons_succ, Act.put, List.setIfInBounds_toArray, List.set_cons_zero, List.set_cons_succ]
  rw [hc_v a] at H1
  have HI := inv_v a
  obtain ⟨N, hN⟩ : ∃ N, nrm a = N := ⟨_, rfl⟩
  have nN : Nw 12 N := hN ▸ inferInstance
  rw [nrm] at hN
  obtain ⟨C, hC⟩ : ∃ C, F6 (Fp6.hc (v6 a)) = C := ⟨_, rfl⟩
  have nC : Nw 36 C := hC ▸ inferInstance
  rw [nrm, hN] at HI
  rw [hC] at HI H1 hN
  clear hC
  go_wp2
  refine H1.quiet 17 4 (by kernel_rfl) (fun _ _ d _ _ h => by cases d <;> exact h) ?_
  have hk := fun u => H1.upqG (y := u) HG
  simp only [List.take_succ_cons, List.take_zero]
  repeat (refine tstep ?_; (first
    | refine H1.ldwq 0 rfl rfl rfl rfl ?_ | refine H1.ldq 0 rfl rfl rfl rfl (by decide) ?_
    | refine H1.ldwq 1 rfl rfl rfl rfl ?_ | refine H1.ldq 1 rfl rfl rfl rfl (by decide) ?_
    | refine H1.ldwq 2 rfl rfl rfl rfl ?_ | refine H1.ldq 2 rfl rfl rfl rfl (by decide) ?_
    | refine tbuild rfl rfl b36 ?_
    | refine tcall (fun u hw => (by unfold Oper.quietAt; go_simp; with_reducible first | refine lRed2 _ nw _ (hk _ hw) | refine lSub2 _ nw _ nw _ (hk _ hw) | refine lMul2 _ nw _ nw _ (hk _ hw) | refine lNeg2 _ nw _ (hk _ hw) | refine lXi2 _ nw _ (hk _ hw) | refine sum_n nw nw _ (hk _ hw))) rfl ?_
    | refine tpure rfl (fun u => by first | (go_simp; done) | (go_simp; with_reducible rfl)) ?_); simp only [List.getElem_toArray, List.getElem_cons_zero, List.getElem_cons_succ, Act.put, List.setIfInBounds_toArray, List.set_cons_zero, List.set_cons_succ])
  refine wpTake_nil ?_
  refine H1.tslice (i := 17) (j := 18) (k := 19) (m := 20) (e := 4) (n := 12) (z := vals .u64 Fp2.Z12) (cv := vals .u64 N) (by kernel_rfl) rfl rfl rfl rfl (fun y => mk1 (x := F2 (gm (v2 (F2 (gm (v2 (seg 24 12 a)) (v2 (seg 12 12 C))))) (1, 1))) y) (fun _ => rfl) ?_ rfl rfl rfl rfl (fun g u hb hg => ?_) (fun g g2 u hb hg => ?_) rfl rfl rfl rfl (fun _ _ => rfl) (fun _ _ => rfl) rfl ⟨rfl, rfl⟩ (fun _ _ d _ _ h => by cases d <;> exact h) (fun w2 gs gn H2 => ?_)
  · exact ⟨⟨_, rfl, rfl, rfl, rfl⟩, ⟨_, _, rfl, rfl, by kernel_rfl⟩⟩
  · unfold Oper.quietAt
    go_simp
    rw [← hN]
    exact sum_1 nw nw nw g _ (H1.upqG HG hb) hg
  · unfold Oper.quietAt
    go_simp
    rw [← hN]
    exact sum_1 nw nw nw g _ (H1.upqG HG hb) hg
  clear H1 hk hN
  simp only [List.getElem_toArray, List.getElem_cons_zero, List.getElem_cons_succ, Act.put, List.setIfInBounds_toArray, List.set_cons_zero, List.set_cons_succ]
  go_wp2
  refine H2.reads 4 1 1 rfl (by kernel_rfl) (fun _ _ d _ _ h => by cases d <;> exact h) ?_
  have hk := fun u => H2.upG (y := u) 1 rfl HG
  have hd := fun u => H2.upG (y := u) 1 rfl HD
  simp only [List.take_succ_cons, List.take_zero]
  repeat (refine tstep ?_; (first
    | refine H2.ldw 0 1 rfl rfl rfl rfl rfl rfl ?_ | refine H2.ld 0 1 rfl rfl rfl rfl rfl rfl (by decide) ?_
    | refine H2.ldw 2 1 rfl rfl rfl rfl rfl rfl ?_ | refine H2.ld 2 1 rfl rfl rfl rfl rfl rfl (by decide) ?_
    | refine H2.ldw 3 1 rfl rfl rfl rfl rfl rfl ?_ | refine H2.ld 3 1 rfl rfl rfl rfl rfl rfl (by decide) ?_
    | refine tcall (fun u hw => (by unfold Oper.quietAt; go_simp; with_reducible first | refine lInv2 _ nw _ (hd _ hw) | refine lScale6 _ nw _ nw _ (hk _ hw))) rfl ?_
    | refine tpure rfl (fun u => by first | (go_simp; done) | (go_simp; with_reducible rfl)) ?_); simp only [List.getElem_toArray, List.getElem_cons_zero, List.getElem_cons_succ, Act.put, List.setIfInBounds_toArray, List.set_cons_zero, List.set_cons_succ])
  refine wpTake_nil ?_
  refine H2.tst 4 1 rfl rfl (by kernel_rfl) (by kernel_rfl) rfl rfl rfl rfl rfl fun w3 H3 => ?_
  clear H2 hk hd
  go_wp2
  exact H3.ret 1 rfl rfl rfl rfl HI

end Go.Proofs.YtpkbbdhpdplkeaaDoor.Fp6
