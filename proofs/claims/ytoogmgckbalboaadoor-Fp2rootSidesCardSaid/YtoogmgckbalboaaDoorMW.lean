/-
  Own text. The contract of package limb: reduce.
-/
import Derived.Test.YtoogmgckbalboaaDoorLimbOwnH
import Derived.WalkMore
import Derived.Test.YtoogmgckbalboaaDoorFpW8
import Derived.Test.YtoogmgckbalboaaDoorFpW7
import Derived.Test.YtoogmgckbalboaaDoorRegH
import Derived.Test.YtoogmgckbalboaaDoorMFpN
import Derived.Test.YtoogmgckbalboaaDoorLimbOwnB
import Derived.Test.YtoogmgckbalboaaDoorMFpr
import Derived.Test.YtoogmgckbalboaaDoorMFpR
import Derived.Test.YtoogmgckbalboaaDoorMReg
namespace Go.Proofs.YtoogmgckbalboaaDoor.Limb
open Go Go.RowKit Go.Proofs.YtoogmgckbalboaaDoor.Reg Go.Proofs.YtoogmgckbalboaaDoor.Base Go.Proofs.YtoogmgckbalboaaDoor.Bits

theorem Only.then_only {g g' : Nat} {a w w' : World} (h : Only g a w) (k : Only g' w w') (hB : a.heap.size ≤ g') : Only g a w' :=
  ⟨k.os.trans h.os, k.tape.trans h.tape, k.output.trans h.output, Nat.le_trans h.size k.size, fun i hi hne => (k.block i (Nat.lt_of_lt_of_le hi h.size) (by omega)).trans (h.block i hi hne)⟩
theorem only_row {w : World} (g : Nat) (cs : Array Value) : Only g w (w.setRow g cs) := ⟨rfl, rfl, rfl, by simp, fun k _ hk => setRow_other w g k cs hk⟩
/-- copy into a row that is known whole, from a slice that is read; nothing else turns. -/
theorem copy_only {P : Program} {w : World} {ops : Array Oper} {rest : List Oper} {o : Oper} {a : Act} {Q : Exit → Act → World → Prop} (hgd : o.guard = none) (d s : Operand) (dT sT : TypeId)
    (ho : o.op = .call { callee := .builtin .copy, args := #[d, s], argTypes := #[dT, sT] }) (elem : TypeId) (hu : P.underlying dT = some (.slice elem)) (hsz : (P.info? elem).map (·.size) = some 1)
    (g off dLen dCap : Nat) (A : Option Addr) (sLen sCap : Nat) (hd : a.eval d = .slice (some ⟨g, off, none⟩) dLen dCap) (hs : a.eval s = .slice A sLen sCap)
    (k : IntKind) (t : TypeId) (xs cs : List Int) (B : Nat) (hg : Has w g t (vals k xs)) (hr : Rd w B A sLen k cs) (h0 : 0 < sLen) (hn : sLen ≤ dLen)
    (hfit : off + sLen ≤ xs.length) (zs : List Int) (hz : xs.take off ++ (cs ++ xs.drop (off + sLen)) = zs)
    (h : ∀ w', Has w' g t (vals k zs) → Only g w w' → wpList P ops Q rest (a.put o.dst (goInt sLen)) w') :
    wpList P ops Q (o :: rest) a w := by
  have hl := hr.len
  obtain ⟨b, o', rfl, _, _⟩ := hr.at_ h0
  refine wpList_copy_own hgd d s dT sT ho elem hu hsz g off dLen dCap ⟨b, o', none⟩ sLen sCap hd hs (vals k xs) t hg.eq (cs.map (Value.int k)) (by simp only [List.length_map, hl]; exact (Nat.min_eq_left hn).symm) (hr.src h0) (by simp [vals_size, hl]; exact hfit) (fun v hv => ?_) ?_
  · obtain ⟨x, _, rfl⟩ := List.mem_map.1 hv
    rfl
  · have := h (w.setRow g (vals k zs)) (hg.row _) (only_row g _)
    rw [← hz] at this
    simpa [vals, hl] using this

section
variable {R dv : List Int} {N m i j : Nat} {M Q q : Int}
/-- The part of a number that is divided next. -/
theorem part_num (hR : Words R) (hN : R.length = N) (hi : i + (m + 1) ≤ N) (hM : M ≤ wp m) (hd : num (R.drop (i + 1)) < M) :
    num ((R.drop i).take (m + 1)) = num (R.drop i) ∧ num (R.drop (i + (m + 1))) = 0 ∧ num (R.drop i) = nth R i + 18446744073709551616 * num (R.drop (i + 1)) := by
  have e1 : num (R.drop i) = nth R i + 18446744073709551616 * num (R.drop (i + 1)) := num_drop (by omega)
  have s := num_split (R.drop (i + 1)) m (by simp; omega)
  rw [List.drop_drop, show i + 1 + m = i + (m + 1) by omega] at s
  have b1 := low_bounds (words_drop hR (i + 1)) m
  have b2 := num_bounds (words_drop hR (i + (m + 1)))
  have hz : num (R.drop (i + (m + 1))) = 0 := by
    rcases Int.lt_or_le 0 (num (R.drop (i + (m + 1)))) with h | h
    · have : wp m * 1 ≤ wp m * num (R.drop (i + (m + 1))) := Int.mul_le_mul_of_nonneg_left (by omega) (Int.le_of_lt (wp_pos m))
      omega
    · omega
  have s2 := num_split (R.drop i) (m + 1) (by simp; omega)
  rw [List.drop_drop, hz, Int.mul_zero, Int.add_zero] at s2
  have e2 : num ((R.drop i).take (m + 1)) = low (R.drop i) (m + 1) := by
    rw [num, List.length_take, List.length_drop, Nat.min_eq_left (by omega)]
    exact low_congr _ fun q hq => nth_take hq
  exact ⟨by rw [e2, ← s2], hz, e1⟩
theorem part_quot (hR : Words R) (hM0 : 0 < M) (hd0 : 0 ≤ num (R.drop (i + 1))) (hd : num (R.drop (i + 1)) < M) (e : num (R.drop i) = nth R i + 18446744073709551616 * num (R.drop (i + 1))) (hQ : num (R.drop i) / M = Q) :
    0 ≤ Q ∧ Q ≤ 18446744073709551615 ∧ Q * M ≤ num (R.drop i) ∧ num (R.drop i) < Q * M + M := by
  have b := hR i
  have a := div_atoms hM0 hQ
  have h0 : 0 ≤ Q := by rw [← hQ]; exact Int.ediv_nonneg (by omega) (by omega)
  refine ⟨h0, ?_, a.1, a.2⟩
  have : Q < 18446744073709551616 := by rw [← hQ]; exact Int.ediv_lt_of_lt_mul hM0 (by omega)
  omega
/-- What is guessed is no less than the quotient. -/
theorem guess_ge {pl : List Int} (hp : Words pl) (hv : Words dv) (lp : pl.length = m + 1) (lv : dv.length = m) (hj : j + 1 = m) (hM : num dv = M) (htop : 0 < nth dv j) (hQ0 : 0 ≤ Q) (hQ1 : Q ≤ 18446744073709551615) (hQ : Q * M ≤ num pl)
    (h1 : nth dv j ≤ nth pl m → q = 18446744073709551615) (h2 : nth pl m < nth dv j → q = (nth pl m * 18446744073709551616 + nth pl j) / nth dv j) : Q ≤ q := by
  rcases Int.lt_or_le (nth pl m) (nth dv j) with h | h
  · rw [h2 h]
    refine Int.le_ediv_of_mul_le htop ?_
    subst hj
    have e1 : num pl = low pl j + wp j * (nth pl j + 18446744073709551616 * nth pl (j + 1)) := by
      rw [num, lp, low_succ, low_succ, wp_succ]; grind
    have e2 : M = low dv j + wp j * nth dv j := by rw [← hM, num, lv, low_succ]
    have b1 := low_bounds hp j
    have b2 := low_bounds hv j
    have h3 : 0 ≤ Q * low dv j := Int.mul_nonneg hQ0 b2.1
    have h4 : Q * M = Q * low dv j + wp j * (Q * nth dv j) := by rw [e2]; grind
    have pw := wp_pos j
    have h5 : wp j * (Q * nth dv j) < wp j * (nth pl j + 18446744073709551616 * nth pl (j + 1) + 1) := by
      rw [Int.mul_add (wp j) (nth pl j + _), Int.mul_one]
      omega
    have h6 := Int.lt_of_mul_lt_mul_left h5 (Int.le_of_lt pw)
    omega
  · rw [h1 h]; exact hQ1
/-- What stays when the quotient's multiple has gone. -/
theorem part_left {l' : List Int} (hR : Words R) (hN : R.length = N) (hi : i + (m + 1) ≤ N) (hw : Words l') (hl : l'.length = m + 1) (hz : num (R.drop (i + (m + 1))) = 0) (hn : num l' = num (R.drop i) - Q * M) :
    Words (R.take i ++ (l' ++ R.drop (i + (m + 1)))) ∧ (R.take i ++ (l' ++ R.drop (i + (m + 1)))).length = N ∧ num (R.take i ++ (l' ++ R.drop (i + (m + 1)))) % M = num R % M ∧ num ((R.take i ++ (l' ++ R.drop (i + (m + 1)))).drop i) = num (R.drop i) - Q * M := by
  have lt : (R.take i).length = i := by simp; omega
  have e : (R.take i ++ (l' ++ R.drop (i + (m + 1)))).drop i = l' ++ R.drop (i + (m + 1)) := by rw [List.drop_append, List.drop_eq_nil_of_le (by omega), lt, Nat.sub_self]; rfl
  refine ⟨words_append (words_take hR _) (words_append hw (words_drop hR _)), by simp [hl]; omega, ?_, ?_⟩
  · have s1 : num R = num (R.take i) + wp i * num (R.drop i) := by
      have h := num_append (R.take i) (R.drop i)
      rw [List.take_append_drop, lt] at h
      exact h
    have : num (R.take i ++ (l' ++ R.drop (i + (m + 1)))) = num R - wp i * Q * M := by
      rw [num_append, lt, num_append, hz, hn, s1]; grind
    rw [this, Int.sub_mul_emod_self_right]
  · rw [e, num_append, hz, hn]; omega
end

set_option maxRecDepth 100000 in
set_option maxHeartbeats 2000000 in
theorem reduce_c (gr gd N m j cd : Nat) (R DV dv : List Int) (M : Int) (w : World) (hR : Has w gr 22 (vals .u64 R)) (hwR : Words R) (hN : R.length = N) (hD : Has w gd 22 (vals .u64 DV)) (hgd : gd ≠ gr) (hlD : DV.length = m + 1) (hdv : dv = DV.take m) (hwd : Words dv) (hM : num dv = M) (hj : j + 1 = m) (htop : 9223372036854775808 ≤ nth dv j) (hhigh : num (R.drop (N - m)) < M) (hNb : N ≤ 10001) (hmb : m ≤ 10000) :
    Calls Tryd.prog 96 #[.slice (some ⟨gr, 0, none⟩) N N, .slice (some ⟨gd, 0, none⟩) m cd] w fun e w' => e = .returned (.tuple #[]) ∧ (∃ R', Has w' gr 22 (vals .u64 R') ∧ Words R' ∧ R'.length = N ∧ num R' = num R % M) ∧ Only gr w w' := by
  have lv : dv.length = m := by rw [hdv]; simp; omega
  have hM1 : M < wp m := by have := num_bounds hwd; rw [lv, hM] at this; exact this.2
  have hM0 : 0 < M := by
    have e2 : M = low dv j + wp j * nth dv j := by rw [← hM, num, lv, ← hj, low_succ]
    have h1 := low_bounds hwd j
    have h2 : wp j * 1 ≤ wp j * nth dv j := Int.mul_le_mul_of_nonneg_left (by omega) (Int.le_of_lt (wp_pos j))
    have := wp_pos j
    omega
  obtain ⟨S, hS⟩ : ∃ S, w.heap.size = S := ⟨_, rfl⟩
  obtain ⟨L, hL⟩ : ∃ L, m + 1 = L := ⟨_, rfl⟩
  have hLi : (m : Int) + 1 = (L : Int) := by omega
  have HL : Keep _ := ⟨hL⟩
  have hgrS : gr < S := by rw [← hS]; exact hR.lt
  have hgdS : gd < S := by rw [← hS]; exact hD.lt
  have hmk : ∀ w, (Instr.makeSlice 51 (.int .i64 L) (.int .i64 L)).run Tryd.prog w = .ok (.slice (some ⟨w.heap.size, 0, none⟩) L L) (w.alloc (.cells (vals .u64 (List.replicate L 0)) 22)) := fun w => run_make_vals w _ _ .u64 Tryd.underlying51 u64Elem .i64 .i64 L (by omega) (by omega)
  have C : Keep (R.length = N ∧ 0 < M ∧ M < wp m ∧ num dv = M ∧ Words dv ∧ dv.length = m ∧ dv = DV.take m ∧ DV.length = m + 1 ∧ 9223372036854775808 ≤ nth dv j ∧ j + 1 = m ∧ m + 1 = L) := ⟨hN, hM0, hM1, hM, hwd, lv, hdv, hlD, htop, hj, hL⟩
  have RD : Keep (∀ w', Has w' gd 22 (vals .u64 DV) → Rd w' (gd + 1) (some ⟨gd, 0, none⟩) m .u64 dv) := ⟨fun w' h => Rd.of_has h (by omega) (by rw [List.drop_zero]; exact hdv) (by omega)⟩
  obtain ⟨T, hT⟩ : ∃ T, num R % M = T := ⟨_, rfl⟩
  have HTT : Keep _ := ⟨hT⟩
  have HST : Keep (Words R ∧ R.length = N ∧ num R % M = T ∧ num (R.drop (N - m)) < M) := ⟨hwR, hN, hT, hhigh⟩
  rw [hT]
  clear hT
  have HK : Keep ((N - m = 0 ∧ (N : Int) - L < 0) ∨ (0 < N - m ∧ (N : Int) - L = ((N - m : Nat) : Int) - 1)) := ⟨by omega⟩
  have hnm : N - m + m ≤ N ∨ N - m = 0 := by omega
  have hT0 : Has (w.alloc (.cells (vals .u64 (List.replicate L 0)) 22)) S 22 (vals .u64 (List.replicate L 0)) := Has.new' _ hS.symm _ _
  have hR0 := hR.alloc (.cells (vals .u64 (List.replicate L 0)) 22)
  have hD0 := hD.alloc (.cells (vals .u64 (List.replicate L 0)) 22)
  have hb0 : Only gr w (w.alloc (.cells (vals .u64 (List.replicate L 0)) 22)) := Only.of_below ((Below.refl _ _).alloc (Nat.le_refl _) _) gr
  have HT0 : Keep (Words (List.replicate L 0) ∧ (List.replicate L (0 : Int)).length = L) := ⟨words_zeros L, by simp⟩
  have HS : Keep _ := ⟨hS⟩
  have hLb : 0 < L ∧ L ≤ 10001 := by omega
  obtain ⟨K, hK⟩ : ∃ K, N - m = K := ⟨_, rfl⟩
  obtain ⟨Z, hZ⟩ : ∃ Z, (N : Int) - (L : Int) = Z := ⟨_, rfl⟩
  rw [hK] at HST HK hnm
  rw [hZ] at HK
  have hKb : K ≤ N := by omega
  have hZb : Z ≤ 10001 := by omega
  have hZK : (Z + 1).toNat ≤ 10001 := by omega
  have hK' : K + m ≤ N ∨ K = 0 := hnm
  clear hR hD hwR hN hlD hdv hwd hM htop hhigh lv hM1 hM0 hL hK hnm hj
  go_enter Tryd.func96, Tryd.ntmps96
  go_wp2
  go_step3
  go_wp2
  go_step3
  go_wp2
  go_loopg [5] 10002 (fun (gk : Nat) vz wr => ∃ (k : Nat) (z : Int) (R' tl : List Int), vz = .int .i64 z ∧ z ≤ 10001 ∧ (z + 1).toNat ≤ gk ∧ Keep ((k = 0 ∧ z < 0) ∨ (0 < k ∧ z = (k : Int) - 1)) ∧ (k + m ≤ N ∨ k = 0) ∧ Has wr gr 22 (vals .u64 R') ∧ Has wr gd 22 (vals .u64 DV) ∧ Has wr S 22 (vals .u64 tl) ∧ Keep (Words tl ∧ tl.length = L) ∧ Keep (Words R' ∧ R'.length = N ∧ num R' % M = T ∧ num (R'.drop k) < M) ∧ Only gr w wr)
  case atStart => exact ⟨K, Z, R, _, rfl, hZb, by omega, HK, hK', hR0, hD0, hT0, HT0, HST, hb0⟩
  case round =>
    clear hR0 hD0 hT0 HT0 HST hb0 HK hmk hK' hZb hKb hZK
    obtain ⟨k, z, R', tl, rfl, hz1, hgk, hk, hkm, hRr, hDd, hTt, HT, HR, hb⟩ := hrel
    rcases Int.lt_or_le z 0 with hz | hz
    · have hk0 : k = 0 := by have := hk.out; omega
      subst hk0
      have HE : Keep (num R' = T) := ⟨by
        have h1 := HR.out.2.2.2
        rw [List.drop_zero] at h1
        rw [← HR.out.2.2.1, Int.emod_eq_of_lt (num_bounds HR.out.1).1 h1]⟩
      have hnz : ¬ 0 ≤ z := by omega
      clear hk hkm hgk
      go_wp2
      go_end0
      exact ⟨rfl, ⟨R', hRr, HR.out.1, HR.out.2.1, HE.out⟩, hb⟩
    · obtain ⟨i, rfl⟩ := Int.eq_ofNat_of_zero_le hz
      have hki : k = i + 1 := by have := hk.out; omega
      subst hki
      have hiN : i + (m + 1) ≤ N := by omega
      have hiL : i + L ≤ N := by have := HL.out; omega
      obtain ⟨mg, rfl⟩ : ∃ mg, gk = mg + 1 := ⟨gk - 1, by omega⟩
      have hgk' : i ≤ mg := by omega
      have pn := part_num HR.out.1 HR.out.2.1 hiN (Int.le_of_lt C.out.2.2.1) HR.out.2.2.2
      obtain ⟨Q, hQ⟩ : ∃ Q, num (R'.drop i) / M = Q := ⟨_, rfl⟩
      have pq := part_quot HR.out.1 C.out.2.1 (num_bounds (words_drop HR.out.1 (i + 1))).1 HR.out.2.2.2 pn.2.2 hQ
      obtain ⟨pl, hpl⟩ : ∃ pl, (R'.drop i).take (m + 1) = pl := ⟨_, rfl⟩
      have PL : Keep (pl.length = L ∧ Words pl ∧ num pl = num (R'.drop i) ∧ (R'.drop i).take L = pl) := ⟨by rw [← hpl, ← HL.out]; simp; have := HR.out.2.1; omega, by rw [← hpl]; exact words_take (words_drop HR.out.1 _) _, by rw [← hpl]; exact pn.1, by rw [← HL.out]; exact hpl⟩
      have RP : Keep (∀ w', Has w' gr 22 (vals .u64 R') → Rd w' (gr + 1) (some ⟨gr, i, none⟩) L .u64 pl) := ⟨fun w' h => Rd.of_has h (by omega) PL.out.2.2.2.symm (by have := HR.out.2.1; omega)⟩
      have PQ : Keep _ := ⟨pq⟩
      have PZ : Keep (num (R'.drop (i + (m + 1))) = 0) := ⟨pn.2.1⟩
      have hQ1 : 0 ≤ Q ∧ Q ≤ 18446744073709551615 := ⟨pq.1, pq.2.1⟩
      clear hk hkm hgk pn pq hpl hQ hz
      have hil : i + L - i = L := by omega
      have GU := fun w' (hRr : Has w' gr 22 (vals .u64 R')) hDd hB hB' => guess_c (some ⟨gr, i, none⟩) m j (N - i) pl (some ⟨gd, 0, none⟩) cd dv (gr + 1) (gd + 1) w' (by rw [HL.out]; exact RP.out _ hRr) (RD.out _ hDd) PL.out.2.1 C.out.2.2.2.2.1 hB hB' C.out.2.2.2.2.2.2.2.2.2.1 hmb C.out.2.2.2.2.2.2.2.2.1
      rw [HL.out] at GU
      have GU' : Keep _ := ⟨GU⟩
      clear GU
      go_wp2_with (go_at_call 98
                   refine (GU'.out _ hRr hDd (by have := hb.size; have := HS.out; omega) (by have := hb.size; have := HS.out; omega)).mono ?_
                   rintro e w2 ⟨q, rfl, hq0, hq1, hqa, hqb, hb2⟩
                   have HQ : Keep (Q ≤ q) := ⟨guess_ge PL.out.2.1 C.out.2.2.2.2.1 (by rw [HL.out]; exact PL.out.1) C.out.2.2.2.2.2.1 C.out.2.2.2.2.2.2.2.2.2.1 C.out.2.2.2.1 (by have := C.out.2.2.2.2.2.2.2.2.1; omega) hQ1.1 hQ1.2 (by rw [PL.out.2.2.1]; exact PQ.out.2.2.1) hqa hqb⟩
                   have hR2 := hRr.keep hb2
                   have hD2 := hDd.keep hb2
                   have hT2 := hTt.keep hb2
                   have hbb2 := hb.then hb2 hb.size
                   clear hRr hDd hTt hb hb2 hqa hqb)
      go_loopg [7] 18446744073709551617 (fun (gi : Nat) vq wr => ∃ (q : Int) (tl : List Int), vq = .int .u64 q ∧ Q ≤ q ∧ q ≤ 18446744073709551615 ∧ q.toNat ≤ gi ∧ Has wr gr 22 (vals .u64 R') ∧ Has wr gd 22 (vals .u64 DV) ∧ Has wr S 22 (vals .u64 tl) ∧ Keep (Words tl ∧ tl.length = L) ∧ Only gr w wr)
      case atStart => exact ⟨q, tl, rfl, HQ.out, hq1, by omega, hR2, hD2, hT2, HT, hbb2⟩
      case round =>
        clear hR2 hD2 hT2 HT hbb2 HQ hq0 hq1 tl
        obtain ⟨q, tl, rfl, hqQ, hq1, hgi, hRr, hDd, hTt, HT, hb⟩ := hrel
        have hq0 : 0 ≤ q := by omega
        have hpm : q * num dv = q * M := by rw [C.out.2.2.2.1]
        have hSz : S ≤ wr.heap.size := by have := hb.size; have := HS.out; omega
        have ST := fun w2 hT2 hD2 => subTimes_c S m L pl (some ⟨gd, 0, none⟩) cd dv q (gd + 1) w2 hT2 PL.out.2.1 (by rw [HL.out]; exact PL.out.1) (RD.out w2 hD2) C.out.2.2.2.2.1 (by omega) hq0 hq1 hmb
        rw [HL.out, hpm, PL.out.2.2.1] at ST
        have ST' : Keep _ := ⟨ST⟩
        have hz : tl.take 0 ++ (pl ++ tl.drop (0 + L)) = pl := by rw [List.take_zero, List.nil_append, List.drop_eq_nil_of_le (by have := HT.out.2; omega), List.append_nil]
        have HZ : Keep _ := ⟨hz⟩
        clear ST hpm hz
        rcases Int.lt_or_le Q q with hlt | hge
        · have HDEC : Keep (decide (q * M ≤ num (R'.drop i)) = false) := ⟨by
            rw [decide_eq_false_iff_not]
            have h1 := PQ.out.2.2.2
            have h2 : (Q + 1) * M ≤ q * M := Int.mul_le_mul_of_nonneg_right (by omega) (by have := C.out.2.1; omega)
            rw [Int.add_mul, Int.one_mul] at h2
            omega⟩
          have hwd : IntKind.u64.wrap (q - 1) = q - 1 := by rw [IntKind.wrap_u64]; omega
          obtain ⟨mi, rfl⟩ : ∃ mi, gk = mi + 1 := ⟨gk - 1, by omega⟩
          go_wp2_with (first
            | (refine copy_only (by rfl) (.tmp 33) (.tmp 34) 51 51 (by rfl) 22 Tryd.underlying51 (by kernel_rfl) S 0 L _ (some ⟨gr, i, none⟩) L _ (by rfl) (by rfl) .u64 22 tl pl (gr + 1) hTt (RP.out _ hRr) (by omega) (Nat.le_refl _) (by have := HT.out.2; omega) pl HZ.out ?_
               intro w2 hT2 hon2
               have hR2 := hon2.has hRr (by omega)
               have hD2 := hon2.has hDd (by omega)
               have hb2 := hb.then_only hon2 (by have := HS.out; omega)
               clear hTt hRr hDd hb hon2)
            | (go_at_call 99
               refine (ST'.out _ hT2 hD2).mono ?_
               rintro e w3 ⟨l', rfl, hT3, hwl, hll, hnl, hon3⟩
               rw [HDEC.out]
               have HT3 : Keep (Words l' ∧ l'.length = L) := ⟨hwl, hll⟩
               have hR3 := hon3.has hR2 (by omega)
               have hD3 := hon3.has hD2 (by omega)
               have hb3 := hb2.then_only hon3 (by have := HS.out; omega)
               clear hT2 hR2 hD2 hb2 hon3 hwl hll hnl))
          go_roundg mi
          case measure => omega
          case rel => exact ⟨q - 1, l', rfl, by omega, by omega, by omega, hR3, hD3, hT3, HT3, hb3⟩
        · obtain rfl : Q = q := by omega
          have HDEC : Keep (decide (Q * M ≤ num (R'.drop i)) = true) := ⟨by rw [decide_eq_true_iff]; exact PQ.out.2.2.1⟩
          go_wp2_with (first
            | (have q1 := f2
               refine copy_only (by rfl) (.tmp 40) (.tmp 41) 51 51 (by rfl) 22 Tryd.underlying51 (by kernel_rfl) gr i L _ (some ⟨S, 0, none⟩) L _ (by rfl) (by rfl) .u64 22 R' l' (S + 1) hR3 (Rd.of_has hT3 (by omega) (by rw [List.drop_zero, take_all HT3.out.2]) (by have := HT3.out.2; omega)) (by omega) (Nat.le_refl _) (by have := HR.out.2.1; omega) _ rfl ?_
               intro w4 hR4 hon4
               have hT4 := hon4.has hT3 (by omega)
               have hD4 := hon4.has hD3 (by omega)
               have hb4 := hb3.trans hon4
               clear hT3 hR3 hD3 hb3 hon4 q1 f2)
            | (refine copy_only (by rfl) (.tmp 33) (.tmp 34) 51 51 (by rfl) 22 Tryd.underlying51 (by kernel_rfl) S 0 L _ (some ⟨gr, i, none⟩) L _ (by rfl) (by rfl) .u64 22 tl pl (gr + 1) hTt (RP.out _ hRr) (by omega) (Nat.le_refl _) (by have := HT.out.2; omega) pl HZ.out ?_
               intro w2 hT2 hon2
               have hR2 := hon2.has hRr (by omega)
               have hD2 := hon2.has hDd (by omega)
               have hb2 := hb.then_only hon2 (by have := HS.out; omega)
               clear hTt hRr hDd hb hon2)
            | (go_at_call 99
               refine (ST'.out _ hT2 hD2).mono ?_
               rintro e w3 ⟨l', rfl, hT3, hwl, hll, hnl, hon3⟩
               rw [HDEC.out]
               have HT3 : Keep (Words l' ∧ l'.length = L) := ⟨hwl, hll⟩
               have HN3 : Keep (num l' = num (R'.drop i) - Q * M) := ⟨hnl PQ.out.2.2.1⟩
               have hR3 := hon3.has hR2 (by omega)
               have hD3 := hon3.has hD2 (by omega)
               have hb3 := hb2.then_only hon3 (by have := HS.out; omega)
               have f2 := True.intro
               clear hT2 hR2 hD2 hb2 hon3 hwl hll hnl))
          have pe := part_left HR.out.1 HR.out.2.1 hiN HT3.out.1 (by rw [HL.out]; exact HT3.out.2) PZ.out HN3.out
          rw [HL.out] at pe
          have PE : Keep (Words (R'.take i ++ (l' ++ R'.drop (i + L))) ∧ (R'.take i ++ (l' ++ R'.drop (i + L))).length = N ∧ num (R'.take i ++ (l' ++ R'.drop (i + L))) % M = T ∧ num ((R'.take i ++ (l' ++ R'.drop (i + L))).drop i) < M) := ⟨pe.1, pe.2.1, pe.2.2.1.trans HR.out.2.2.1, by rw [pe.2.2.2]; have := PQ.out.2.2.2; omega⟩
          have HKI : Keep ((i = 0 ∧ (i : Int) - 1 < 0) ∨ (0 < i ∧ (i : Int) - 1 = (i : Int) - 1)) := ⟨by omega⟩
          clear pe
          go_roundg mg
          case measure => omega
          case rel => exact ⟨i, (i : Int) - 1, _, l', rfl, by omega, by omega, HKI, by omega, hR4, hD4, hT4, HT3, PE, hb4⟩
end Go.Proofs.YtoogmgckbalboaaDoor.Limb

/-
  Own text. The contract of Wide of package fp.
-/
namespace Go.Proofs.YtoogmgckbalboaaDoor.Fp
set_option linter.unusedVariables false
set_option linter.unusedSimpArgs false
open Go Go.RowKit Go.Proofs.YtoogmgckbalboaaDoor.Reg Go.Proofs.YtoogmgckbalboaaDoor.Base Go.Proofs.YtoogmgckbalboaaDoor.Limb Go.Proofs.YtoogmgckbalboaaDoor.Bits

theorem fe_up (x y : Int) (k : Int) : fe (x + k * num (fe y)) = fe (x + k * y) := fe_congr (by rw [Int.add_emod, Int.mul_emod, num_fe, Int.emod_emod, ← Int.mul_emod, ← Int.add_emod])
/-- Twelve words: six of the row (noughts where it has none), and what is left above them. -/
theorem wide_step {l cs o : List Int} {e s m : Nat} (hs : s + m = e) (hm : m ≤ 6) (he : e ≤ l.length) (hc : m = 6 ∨ e = l.length) (hcs : (l.drop s).take m = cs) (ho : fe (num (l.drop e)) = o) (hw : Words l) :
    ((cs ++ List.replicate (6 - m) 0) ++ o).length = 12 ∧ Words ((cs ++ List.replicate (6 - m) 0) ++ o) ∧ cs.length = m ∧ fe (num ((cs ++ List.replicate (6 - m) 0) ++ o)) = fe (num (l.drop s)) := by
  have hl : cs.length = m := by rw [← hcs, List.length_take, List.length_drop]; omega
  have hol : o.length = 6 := ho ▸ fe_len _
  have h6 : (cs ++ List.replicate (6 - m) (0 : Int)).length = 6 := by rw [List.length_append, List.length_replicate, hl]; omega
  refine ⟨by rw [List.length_append, h6, hol], words_append (words_append (by rw [← hcs]; exact words_take (words_drop hw _) _) (words_zeros _)) (ho ▸ fe_words _), hl, ?_⟩
  have hd : l.drop s = cs ++ l.drop e := by
    have := (List.take_append_drop m (l.drop s)).symm
    rwa [hcs, List.drop_drop, hs] at this
  rw [num_append, h6, num_append, num_zeros, Int.mul_zero, Int.add_zero, hd, num_append, hl, ← ho, fe_up]
  rcases hc with h | h
  · rw [h]
  · rw [h, num_drop_all, Int.mul_zero, Int.mul_zero]

theorem wide_fill {cs o : List Int} {m : Nat} (hl : cs.length = m) (hm : m ≤ 6) : (cs ++ List.replicate (12 - m) (0 : Int)).take 6 ++ (o ++ (cs ++ List.replicate (12 - m) (0 : Int)).drop (6 + 6)) = (cs ++ List.replicate (6 - m) 0) ++ o := by
  have h1 : (cs ++ List.replicate (12 - m) (0 : Int)).drop (6 + 6) = [] := List.drop_of_length_le (by rw [List.length_append, List.length_replicate, hl]; omega)
  have h2 : (cs ++ List.replicate (12 - m) (0 : Int)).take 6 = cs ++ List.replicate (6 - m) 0 := by
    rw [List.take_append, List.take_of_length_le (by omega), hl, List.take_replicate]
    congr 2
    omega
  rw [h1, h2, List.append_nil]

end Go.Proofs.YtoogmgckbalboaaDoor.Fp

/-
  Own text. What shortPow of package fp leans on: a table of powers; digits of four bits.
-/
namespace Go.Proofs.YtoogmgckbalboaaDoor.Fp
set_option linter.unusedVariables false
set_option linter.unusedSimpArgs false
open Go Go.RowKit Go.Proofs.YtoogmgckbalboaaDoor.Reg Go.Proofs.YtoogmgckbalboaaDoor.Base Go.Proofs.YtoogmgckbalboaaDoor.Limb Go.Proofs.YtoogmgckbalboaaDoor.Bits

/-- A table whose first k rows are powers. -/
structure Pows (x : Int) (k : Nat) (T : List Int) : Prop where
  len : T.length = 96
  row : ∀ j, j < k → (T.drop (6 * j)).take 6 = fe (x ^ j)
theorem Pows.none (x : Int) : Pows x 1 ([1, 0, 0, 0, 0, 0] ++ List.replicate 90 0) :=
  ⟨by decide, fun j hj => by
    obtain rfl : j = 0 := by omega
    rw [Int.pow_zero]
    decide +kernel⟩
theorem Pows.more {x : Int} {k : Nat} {T ys : List Int} (h : Pows x k T) (hk : k < 16) (hy : fe (x ^ k) = ys) : Pows x (k + 1) (T.take (6 * k) ++ (ys ++ T.drop (6 * k + ys.length))) := by
  have hl := h.len
  have hyl : ys.length = 6 := hy ▸ fe_len _
  have h1 : (T.take (6 * k)).length = 6 * k := by rw [List.length_take]; omega
  refine ⟨by rw [List.length_append, List.length_append, h1, List.length_drop]; omega, fun j hj => ?_⟩
  rcases Nat.lt_or_ge j k with hlt | hge
  · rw [← h.row j hlt]
    apply List.ext_getElem?
    intro i
    rw [List.getElem?_take, List.getElem?_take]
    split
    · rw [List.getElem?_drop, List.getElem?_drop, List.getElem?_append_left (by omega), List.getElem?_take, if_pos (by omega)]
    · rfl
  · obtain rfl : j = k := by omega
    rw [List.drop_left' h1, List.take_left' hyl, hy]
theorem pow_next {x : Int} {k : Nat} {a : List Int} (ha : num a = x) : fe (num (fe (x ^ k)) * num a) = fe (x ^ (k + 1)) := by
  rw [fe_mull, ha, Int.pow_succ]
/-- A number's next digit of four bits. -/
theorem num_digit {l : List Int} (hw : Words l) {i s : Nat} (hi : i < l.length) (hs : s + 4 ≤ 64) : num l / tp (64 * i + s) = 16 * (num l / tp (64 * i + (s + 4))) + nth l i / 2 ^ s % 16 := by
  obtain ⟨V, hV⟩ : ∃ V, num l / tp (64 * i + s) = V := ⟨_, rfl⟩
  have h16 : num l / tp (64 * i + (s + 4)) = V / 16 := by
    rw [← hV, ← Nat.add_assoc, tp_add, ← Int.ediv_ediv_of_nonneg (Int.le_of_lt (tp_pos _))]
    rfl
  have hm : V % 16 = nth l i / 2 ^ s % 16 := by
    have e1 : num l / tp (64 * i) = num (l.drop i) := by
      rw [num_split l i (by omega), tp_wp]
      rw [Int.add_mul_ediv_left _ _ (by have := wp_pos i; omega), Int.ediv_eq_zero_of_lt (low_bounds hw i).1 (low_bounds hw i).2, Int.zero_add]
    have e2 : V = (nth l i + 18446744073709551616 * num (l.drop (i + 1))) / tp s := by
      rw [← hV, tp_add, ← Int.ediv_ediv_of_nonneg (Int.le_of_lt (tp_pos _)), e1, num_drop hi]
    obtain ⟨t, ht⟩ : ∃ t, s + 4 + t = 64 := ⟨60 - s, by omega⟩
    have e3 : (18446744073709551616 : Int) = tp s * (16 * tp t) := by
      have : tp 64 = tp s * (16 * tp t) := by
        rw [← ht, tp_add, tp_add, Int.mul_assoc]
        rfl
      rw [← this]
      decide
    rw [e2, e3, Int.mul_assoc, Int.add_mul_ediv_left _ _ (by have := tp_pos s; omega), Int.mul_assoc, Int.add_mul_emod_self_left]
    rfl
  rw [h16, hV, ← hm]
  omega
/-- One squaring. -/
theorem pow_square {x E : Int} {o : List Int} (h0 : 0 ≤ E) (ho : fe (pw x E) = o) : fe (num o * num o) = fe (pw x (2 * E)) := by
  rw [← ho, fe_times, ← pw_add h0 h0]
  congr 2
  omega
/-- A power that is 1 stays 1. -/
theorem pow_ones {x E : Int} (h0 : 0 ≤ E) (h : fe (pw x E) = fe 1) : ∀ k : Nat, fe (pw x (2 ^ k * E)) = fe 1
  | 0 => by rw [Int.pow_zero, Int.one_mul, h]
  | k + 1 => by
    have h1 : 0 ≤ 2 ^ k * E := Int.mul_nonneg (Int.le_of_lt (Int.pow_pos (by omega))) h0
    have h2 := pow_square h1 (pow_ones h0 h k)
    rw [show (2 : Int) ^ (k + 1) * E = 2 * (2 ^ k * E) by rw [Int.pow_succ]; grind, ← h2]
    decide +kernel
/-- A digit taken in. -/
theorem pow_digit {x E d : Int} {k : Nat} {o : List Int} (h0 : 0 ≤ E) (hd : d = (k : Int)) (ho : fe (pw x E) = o) : fe (num o * num (fe (x ^ k))) = fe (pw x (E + d)) := by
  rw [← ho, fe_times, hd, pw_add h0 (by omega)]
  rfl
end Go.Proofs.YtoogmgckbalboaaDoor.Fp

/-
  Own text. The contract of shortPow of package fp.
-/
namespace Go.Proofs.YtoogmgckbalboaaDoor.Fp
set_option linter.unusedVariables false
set_option linter.unusedSimpArgs false
open Go Go.RowKit Go.Proofs.YtoogmgckbalboaaDoor.Reg Go.Proofs.YtoogmgckbalboaaDoor.Base Go.Proofs.YtoogmgckbalboaaDoor.Limb Go.Proofs.YtoogmgckbalboaaDoor.Bits

theorem rd_cell0 {w : World} {B b off n : Nat} {k : IntKind} {xs : List Int} (h : Rd w B (some ⟨b, off, none⟩) n k xs) {j : Nat} (hj : j < n) {y : Int} (hy : nth xs j = y) : w.cell? ⟨b, off + j, none⟩ = some (.int k y) := by
  rw [← hy]
  exact rd_cell h (Below.refl B w) (Nat.le_refl _) hj
theorem wpList_free {P : Program} {ops : Array Oper} {Q : Exit → Act → World → Prop} {o : Oper} {rest : List Oper} {a : Act} {w : World} (hw : Region.wanted o (yielded ops a.tmps) = true) (h : wpList P ops Q ({ o with guard := none } :: rest) a w) : wpList P ops Q (o :: rest) a w := by
  unfold wpList at h ⊢
  rw [if_pos hw]
  rw [if_pos (by rfl)] at h
  exact h
def tab0 : List Int := [1, 0, 0, 0, 0, 0] ++ List.replicate 90 0
set_option maxRecDepth 100000 in
set_option maxHeartbeats 2000000 in
theorem shortPow_c (a : List Int) (hla : a.length = 6) (hwa : Words a) (A : Option Addr) (n c : Nat) (l : List Int) (B : Nat) (w : World) (hG : Glob w) (hr : Rd w B A n .u64 l) (hw : Words l) (hB : B ≤ w.heap.size) (hn : n ≤ 100000) : Calls Tryd.prog 85 #[.agg (vals .u64 a), .slice A n c] w fun e w' => e = .returned (.agg (vals .u64 (fe (pw (num a) (num l))))) ∧ Below w.heap.size w w' := by
  have LN : Keep _ := ⟨hr.len⟩
  have LW : Keep _ := ⟨hw⟩
  have LA : Keep _ := ⟨hla⟩
  have WA : Keep _ := ⟨hwa⟩
  clear hw hla hwa
  obtain ⟨x, hx⟩ : ∃ x, num a = x := ⟨_, rfl⟩
  have HX : Keep _ := ⟨hx⟩
  obtain ⟨S, hS⟩ : ∃ S, w.heap.size = S := ⟨_, rfl⟩
  have hA0 : Has ((w.alloc (.cells (vals .u64 a) 24)).alloc (.cells (vals .u64 Z6) 24)) S 24 (vals .u64 a) := (Has.new' _ hS.symm _ _).alloc _
  have hR0 : Has ((w.alloc (.cells (vals .u64 a) 24)).alloc (.cells (vals .u64 Z6) 24)) (S + 1) 24 (vals .u64 Z6) := Has.new' _ (by rw [World.size_alloc, hS]) _ _
  have hs0 : ((w.alloc (.cells (vals .u64 a) 24)).alloc (.cells (vals .u64 Z6) 24)).heap.size = S + 2 := by rw [World.size_alloc, World.size_alloc, hS]
  have hb0 : Below S w ((w.alloc (.cells (vals .u64 a) 24)).alloc (.cells (vals .u64 Z6) 24)) := by rw [← hS]; exact ((Below.refl _ _).alloc (Nat.le_refl _) _).alloc (by simp) _
  have hO0 : Has (((w.alloc (.cells (vals .u64 a) 24)).alloc (.cells (vals .u64 Z6) 24)).alloc (.cells (vals .u64 Z6) 24)) (S + 1 + 1) 24 (vals .u64 Z6) := Has.new' _ hs0.symm _ _
  have hA0' := hA0.alloc (.cells (vals .u64 Z6) 24)
  have hR0' := hR0.alloc (.cells (vals .u64 Z6) 24)
  have hb0' := hb0.alloc (by omega) (.cells (vals .u64 Z6) 24)
  have HS0 : Keep (S ≤ w.heap.size) := ⟨by omega⟩
  have HSS : Keep (∀ w', Below S w w' → S ≤ w'.heap.size) := ⟨fun w' hb => Nat.le_trans HS0.out hb.size⟩
  have HGG : Keep (∀ w', Below S w w' → Glob w') := ⟨fun w' hb => hG.keep (by rw [hS]; exact hb)⟩
  have HRD : Keep (∀ w', Below S w w' → Rd w' B A n .u64 l) := ⟨fun w' hb => hr.keep hb (by omega)⟩
  have HBS : Keep (B ≤ S) := ⟨by omega⟩
  rw [hx, hS]
  clear hr hG hB hx hA0 hR0 hb0 hs0
  go_enter Tryd.func85, Tryd.ntmps85
  go_wp2_with (first
    | (refine wpList_buildTo (by rfl) 24 #[(0, .const (.int .u64 1))] (by rfl) (some 13) (by rfl) (vals .u64 [1, 0, 0, 0, 0, 0]) (by kernel_rfl) ?_)
    | (have q1 := f1
       refine wpList_buildTo (by rfl) 86 #[(0, .tmp 14)] (by rfl) (some 15) (by rfl) (vals .u64 tab0) (by kernel_rfl) ?_)
    | (have q1 := f1
       refine wpList_load_row rfl 24 (.tmp 5) rfl (S + 1 + 1) rfl _ _ _ _ hO1.eq Tryd.underlying24 rfl (by kernel_rfl) ?_)
    | (have q1 := f1
       refine store_abs2 (by rfl) 86 (.tmp 6) (.tmp 15) (by rfl) (by rfl) w1.heap.size (vals .u64 tab0) (by rfl) (by rfl) 86 _ (Has.new _ _ _) (by kernel_rfl) (by kernel_rfl) (by kernel_rfl) ?_
       intro w2 hT2 hkeep hbg
       have hlt1 := hO1.lt
       have hO2 := hkeep _ _ _ (hO1.alloc _) (by omega)
       have hA2 := hkeep _ _ _ (hA1.alloc _) (by omega)
       have hR2 := hkeep _ _ _ (hR1.alloc _) (by omega)
       have hb2 := (hb1.alloc (HSS.out _ hb1) (.cells Tryd.zeroCells86 86)).trans (hbg.mono (by omega))
       clear hkeep hbg hO1 hA1 hR1 hb1)
    | (refine store_abs2 (by rfl) 24 (.tmp 5) (.tmp 13) (by rfl) (by rfl) (S + 1 + 1) (vals .u64 [1, 0, 0, 0, 0, 0]) (by rfl) (by rfl) 24 (vals .u64 Z6) hO0 (by kernel_rfl) (by rfl) vals_one ?_
       intro w1 hO1 hkeep hbg
       have f1 := True.intro
       have hA1 := hkeep _ _ _ hA0' (by omega)
       have hR1 := hkeep _ _ _ hR0' (by omega)
       have hb1 := hb0'.trans (hbg.mono (by omega))
       clear hkeep hbg hA0' hR0' hb0' hO0))
  obtain ⟨g6, hg6⟩ : ∃ g, w1.heap.size = g := ⟨_, rfl⟩
  rw [hg6] at hT2 hlt1 ⊢
  have nT : S + 1 + 1 < g6 := hlt1
  clear hg6 hlt1 f1
  go_loopg [7] 15 (fun (gk : Nat) vi wr => ∃ k T, k + gk = 16 ∧ 1 ≤ k ∧ vi = .int .i64 (k : Int) ∧ Keep (Pows x k T) ∧ Has wr g6 86 (vals .u64 T) ∧ Has wr S 24 (vals .u64 a) ∧ Has wr (S + 1) 24 (vals .u64 Z6) ∧ Has wr (S + 1 + 1) 24 (vals .u64 [1, 0, 0, 0, 0, 0]) ∧ Below S w wr)
  case atStart => exact ⟨1, tab0, rfl, Nat.le_refl _, rfl, ⟨Pows.none x⟩, hT2, hA2, hR2, hO2, hb2⟩
  case round =>
    clear hT2 hA2 hR2 hO2 hb2
    obtain ⟨k, T, hk, hk1, rfl, HT, hT, hA, hR, hO, hb⟩ := hrel
    rcases gk with _ | m
    · obtain rfl : k = 16 := by omega
      have HE0 : Keep ([1, 0, 0, 0, 0, 0] = fe (pw x (num l / tp (64 * n)))) := ⟨by
        have hb := num_bounds LW.out
        rw [LN.out] at hb
        rw [tp_wp, Int.ediv_eq_zero_of_lt hb.1 hb.2, pw_zero, fe_one]⟩
      clear hA hk hk1
      go_wp2_with (first
        | (refine wpList_load_row rfl 24 (.tmp 5) rfl (S + 1 + 1) rfl _ _ _ _ hO.eq Tryd.underlying24 rfl (by kernel_rfl) ?_)
        | (refine store_abs2 (by rfl) 24 (.tmp 8) (.tmp 28) (by rfl) (by rfl) wr.heap.size (vals .u64 [1, 0, 0, 0, 0, 0]) (by rfl) (by rfl) 24 (vals .u64 Z6) (Has.new' _ rfl _ _) (by kernel_rfl) (by rfl) vals_one ?_
           intro w5 hP5 hkeep hbg
           have hltT := hT.lt
           have hltO := hO.lt
           rw [HE0.out] at hP5
           have hbe := ((Below.refl wr.heap.size wr).alloc (Nat.le_refl _) (.cells (vals .u64 Z6) 24)).trans hbg
           have hT5 := hT.keep hbe
           have hR5 := hR.keep hbe
           have hO5 := hO.keep hbe
           have hb5 := hb.trans (hbe.mono (HSS.out _ hb))
           clear hkeep hbg hbe hT hR hO hb))
      obtain ⟨g8, hg8⟩ : ∃ g, wr.heap.size = g := ⟨_, rfl⟩
      rw [hg8] at hltT hltO hP5 ⊢
      clear hg8
      go_loopg [9] n (fun (gk : Nat) vi wr => gk ≤ n ∧ vi = .int .i64 ((gk : Int) - 1) ∧ Has wr g8 24 (vals .u64 (fe (pw x (num l / tp (64 * gk))))) ∧ Has wr g6 86 (vals .u64 T) ∧ Has wr (S + 1) 24 (vals .u64 Z6) ∧ Has wr (S + 1 + 1) 24 (vals .u64 [1, 0, 0, 0, 0, 0]) ∧ Below S w wr)
      case atStart => exact ⟨Nat.le_refl _, by go_num, hP5, hT5, hR5, hO5, hb5⟩
      case round =>
        clear hP5 hT5 hR5 hO5 hb5
        obtain ⟨hk, rfl, hP, hT, hR, hO, hb⟩ := hrel
        rcases gk with _ | i
        · obtain ⟨o, ho⟩ : ∃ o, fe (pw x (num l / tp (64 * 0))) = o := ⟨_, rfl⟩
          rw [ho] at hP
          have OL : Keep (o.length = 6) := ⟨ho ▸ fe_len _⟩
          have FIN : Keep (o = fe (pw x (num l))) := ⟨by rw [← ho, Nat.mul_zero, tp_zero, Int.ediv_one]⟩
          clear ho
          go_wp2_with (first
            | (refine wpList_load_row rfl 24 (.tmp 8) rfl g8 rfl _ _ _ _ hP.eq Tryd.underlying24 rfl (by rw [vals_size, OL.out]; kernel_rfl) ?_)
            | (refine wpList_store_rowTo rfl 24 (.tmp 4) (.tmp 66) rfl rfl (S + 1) (vals .u64 o) rfl rfl _ _ hR.eq (by rw [vals_size, OL.out]; kernel_rfl) (by rw [vals_size, vals_size, OL.out]; rfl) vals_one ?_))
          refine bodyPost_ret (v := .agg (vals .u64 o)) (results_cell_row rfl _ _ (S + 1) _ _ _ _ rfl (hR.row _).eq Tryd.underlying24 rfl (by rw [vals_size, OL.out]; kernel_rfl)) rfl ⟨ret_eq (by rw [FIN.out]), below_row hb (by omega) _⟩
        · have e1 : ((i + 1 : Nat) : Int) - 1 = (i : Int) := by omega
          rw [e1]
          clear e1
          obtain ⟨y, hy⟩ : ∃ y, nth l i = y := ⟨_, rfl⟩
          have by' : 0 ≤ y ∧ y ≤ 18446744073709551615 := hy ▸ LW.out i
          obtain ⟨b1, o1, rfl, hlb1, hc1⟩ := (HRD.out _ hb).at_ (by omega)
          have HC : Keep (∀ w', Below S w w' → w'.cell? ⟨b1, o1 + i, none⟩ = some (.int .u64 y)) := ⟨fun w' hb' => rd_cell0 (HRD.out _ hb') (by omega) hy⟩
          have HY : Keep _ := ⟨hy⟩
          clear hc1 hy
          go_wp2
          go_loopg [10] 16 (fun (gk2 : Nat) vi wr => gk2 ≤ 16 ∧ vi = .int .i64 (4 * (gk2 : Int) - 4) ∧ Has wr g8 24 (vals .u64 (fe (pw x (num l / tp (64 * i + 4 * gk2))))) ∧ Has wr g6 86 (vals .u64 T) ∧ Has wr (S + 1) 24 (vals .u64 Z6) ∧ Has wr (S + 1 + 1) 24 (vals .u64 [1, 0, 0, 0, 0, 0]) ∧ Below S w wr)
          case atStart => exact ⟨Nat.le_refl _, by rfl, hP, hT, hR, hO, hb⟩
          case round =>
            clear hP hT hR hO hb
            obtain ⟨hk2, rfl, hP, hT, hR, hO, hb⟩ := hrel
            rcases gk with _ | k
            · rw [Nat.mul_zero, Nat.add_zero] at hP
              have e0 : 4 * ((0 : Nat) : Int) - 4 = -4 := by decide
              rw [e0]
              go_wp2
              go_roundg i
              case measure => omega
              case rel => exact ⟨by omega, by go_num, hP, hT, hR, hO, hb⟩
            · obtain ⟨sh, hsh⟩ : ∃ sh, 4 * k = sh := ⟨_, rfl⟩
              have e1 : 4 * ((k + 1 : Nat) : Int) - 4 = (sh : Int) := by omega
              rw [e1]
              rw [show 64 * i + 4 * (k + 1) = 64 * i + (sh + 4) by omega] at hP
              clear e1
              have hdig := num_digit LW.out (i := i) (s := sh) (by rw [LN.out]; omega) (by omega)
              obtain ⟨E, hE⟩ : ∃ E, num l / tp (64 * i + (sh + 4)) = E := ⟨_, rfl⟩
              have h0 : 0 ≤ E := hE ▸ shift_nonneg LW.out _
              have hsb := shr_bounds by'.1 by'.2 sh
              rw [hE] at hP
              rw [hE, HY.out] at hdig
              obtain ⟨q, hq⟩ : ∃ q, y / 2 ^ sh = q := ⟨_, rfl⟩
              rw [hq] at hdig hsb
              obtain ⟨d, hd⟩ : ∃ d : Nat, q % 16 = (d : Int) := Int.eq_ofNat_of_zero_le (Int.emod_nonneg _ (by decide))
              have hd16 : d < 16 := by omega
              have hdt : q.tmod 16 = (d : Int) := by rw [Int.tmod_eq_emod_of_nonneg hsb.1, hd]
              rw [hd] at hdig
              have HE : Keep (0 ≤ E ∧ num l / tp (64 * i + sh) = 16 * E + (d : Int)) := ⟨h0, hdig⟩
              have hC := HC.out _ hb
              have QK : Keep (y / 2 ^ sh = q ∧ q % 16 = (d : Int) ∧ q.tmod 16 = (d : Int) ∧ sh = 4 * k ∧ 0 ≤ q ∧ q ≤ 18446744073709551615) := ⟨hq, hd, hdt, hsh.symm, hsb⟩
              clear hC hdig h0 hsb hE hq hd hdt
              go_wp2
              go_loopg [11] 4 (fun (gk3 : Nat) vi wr => ∃ j o, j + gk3 = 4 ∧ vi = .int .i64 (j : Int) ∧ Keep (fe (pw x (2 ^ j * E)) = o) ∧ Has wr g8 24 (vals .u64 o) ∧ Has wr g6 86 (vals .u64 T) ∧ Has wr (S + 1) 24 (vals .u64 Z6) ∧ Has wr (S + 1 + 1) 24 (vals .u64 [1, 0, 0, 0, 0, 0]) ∧ Below S w wr)
              case atStart => exact ⟨0, _, rfl, rfl, ⟨by rw [Int.pow_zero, Int.one_mul]⟩, hP, hT, hR, hO, hb⟩
              case round =>
                clear hP hT hR hO hb
                obtain ⟨j, o, hj, rfl, HO, hP, hT, hR, hO, hb⟩ := hrel
                have OL : Keep (o.length = 6 ∧ Words o) := ⟨HO.out ▸ fe_len _, HO.out ▸ fe_words _⟩
                have hgd := gd6
                rcases gk with _ | m
                · obtain rfl : j = 4 := by omega
                  have H16 : Keep (fe (pw x (16 * E)) = o) := ⟨by rw [← HO.out, show (2 : Int) ^ 4 = 16 by decide]⟩
                  clear HO
                  obtain ⟨hq, hd, hdt, hsh, hq0⟩ := QK.out
                  have hC := HC.out _ hb
                  have hs64 : sh < 64 := by omega
                  have hs60 : sh ≤ 63 := by omega
                  have hw2 : IntKind.u64.wrap 16 = 16 := by decide
                  rcases Nat.eq_zero_or_pos d with hz | hz
                  · subst hz
                    have hd0 : q % 16 = 0 := by omega
                    have hdt0 : q.tmod 16 = 0 := by rw [hdt]; rfl
                    have FIN : Keep (o = fe (pw x (num l / tp (64 * i + 4 * k)))) := ⟨by rw [← hsh, HE.out.2, ← H16.out]; congr 2; omega⟩
                    have hP0 := hP
                    have FINC : Keep _ := FIN
                    clear hd hdt hP0 FINC hsh
                    go_wp2_with (first | fail)
                    go_roundg k
                    case measure => omega
                    case rel => exact ⟨by omega, by go_num, by rw [← FIN.out]; exact hP, hT, hR, hO, hb⟩
                  · have hne : (d : Int) ≠ 0 := by omega
                    have hnb : ((d : Int) == 0) = false := by simpa using hne
                    have hnd : decide ((d : Int) = 0) = false := decide_eq_false hne
                    obtain ⟨ps, hps⟩ : ∃ p, fe (x ^ d) = p := ⟨_, rfl⟩
                    obtain ⟨qs, hqs⟩ : ∃ q, fe (pw x (num l / tp (64 * i + 4 * k))) = q := ⟨_, rfl⟩
                    have LQ : Keep (qs.length = 6) := ⟨hqs ▸ fe_len _⟩
                    have SEG : Keep (ps = (T.drop (d * 6)).take 6) := ⟨by rw [Nat.mul_comm, HT.out.row d (by omega), hps]⟩
                    have TL : Keep (d * 6 + 6 ≤ T.length) := ⟨by rw [HT.out.len]; omega⟩
                    have FIN : Keep (fe (num o * num ps) = qs) := ⟨by
                      rw [← hps, pow_digit (x := x) (E := 16 * E) (by have := HE.out.1; omega) rfl H16.out, ← HE.out.2, hsh, hqs]⟩
                    have HQS : Keep _ := ⟨hqs⟩
                    have ML : Keep (∀ w', Below wr.heap.size wr w' → Calls Tryd.prog 20 #[.agg (vals .u64 o), .agg (vals .u64 ps)] w' fun e w'' => e = .returned (.agg (vals .u64 qs)) ∧ Below w'.heap.size w' w'') := ⟨fun w' hb' => by
                      have := fpMul_c o OL.out.1 OL.out.2 ps (hps ▸ fe_len _) (hps ▸ fe_words _) w' (HGG.out _ (hb.trans (hb'.mono (HSS.out _ hb))))
                      rwa [FIN.out] at this⟩
                    have LP : Keep (ps.length = 6) := ⟨hps ▸ fe_len _⟩
                    clear hps hqs hsh
                    go_wp2_with (first | fail)
                    refine wp_fam 5 (by kernel_rfl) (by kernel_rfl) (fun I hI' fw hf hback => ?_)
                    simp only [List.take_succ_cons, List.take_zero, List.drop_succ_cons, List.drop_zero]
                    repeat (first
                      | (go_big_quiet_want
                         first
                         | refine quiet_load_seg 24 (.tmp 63) (by rfl) g6 (d * 6) 6 (by rfl) 86 .u64 T ps _ (fun w' ⟨i, hi⟩ => by rw [hi]; exact hT.keep (hf i)) Tryd.underlying24 rfl (by kernel_rfl) SEG.out TL.out ?_
                         | refine quiet_load_seg 24 (.tmp 8) (by rfl) g8 0 6 (by rfl) 24 .u64 o o _ (fun w' ⟨i, hi⟩ => by rw [hi]; exact hP.keep (hf i)) Tryd.underlying24 rfl (by kernel_rfl) (by rw [List.drop_zero, take_all OL.out.1]) (by rw [OL.out.1]; omega) ?_
                         simp only [Act.put, List.setIfInBounds_toArray, List.set_cons_zero, List.set_cons_succ]
                         go_big_quiet_on)
                      | go_big_quiet_step (first | fail | (go_at_call 20; with_reducible exact calls_fam hf hback (ML.out _ (hf _)))))
                    refine wpQuiet_nil ?_
                    intro w3 hq3
                    have hP3 := hP.keep hq3
                    have hT3 := hT.keep hq3
                    have hR3 := hR.keep hq3
                    have hO3 := hO.keep hq3
                    have hb3 := hb.trans (hq3.mono (HSS.out _ hb))
                    clear hf hback hq3 hP hT hR hO hb hC
                    go_wp2_with (refine store_abs2 (by rfl) 24 (.tmp 8) (.tmp 65) (by rfl) (by rfl) g8 (vals .u64 qs) (by rfl) (by rfl) 24 (vals .u64 o) hP3 (by rw [vals_size, LQ.out]; kernel_rfl) (by rw [vals_size, vals_size, LQ.out, OL.out.1]) vals_one ?_
                                 intro w4 hP4 hkeep hbg
                                 rw [← HQS.out] at hP4
                                 have hT4 := hkeep _ _ _ hT3 (by omega)
                                 have hR4 := hkeep _ _ _ hR3 (by omega)
                                 have hO4 := hkeep _ _ _ hO3 (by omega)
                                 have hb4 := hb3.trans (hbg.mono (by omega))
                                 clear hkeep hbg hP3 hT3 hR3 hO3 hb3)
                    go_roundg k
                    case measure => omega
                    case rel => exact ⟨by omega, by go_num, hP4, hT4, hR4, hO4, hb4⟩
                · have hj4 : decide ((j : Int) < 4) = true := decide_eq_true (by omega)
                  by_cases h1 : o = [1, 0, 0, 0, 0, 0]
                  · subst h1
                    have E1 := eq6 [1, 0, 0, 0, 0, 0] rfl
                    have H16 : Keep (fe (pw x (16 * E)) = [1, 0, 0, 0, 0, 0]) := ⟨by
                      have h2 : (0 : Int) ≤ 2 ^ j * E := Int.mul_nonneg (Int.le_of_lt (Int.pow_pos (by omega))) HE.out.1
                      have h3 := pow_ones h2 (HO.out.trans fe_one.symm) (m + 1)
                      rw [← Int.mul_assoc, ← Int.pow_add, show m + 1 + j = 4 by omega, show (2 : Int) ^ 4 = 16 by decide] at h3
                      rw [h3, fe_one]⟩
                    clear HO
                    obtain ⟨hq, hd, hdt, hsh, hq0⟩ := QK.out
                    have hC := HC.out _ hb
                    have hs64 : sh < 64 := by omega
                    have hs60 : sh ≤ 63 := by omega
                    have hw2 : IntKind.u64.wrap 16 = 16 := by decide
                    rcases Nat.eq_zero_or_pos d with hz | hz
                    · subst hz
                      have hd0 : q % 16 = 0 := by omega
                      have hdt0 : q.tmod 16 = 0 := by rw [hdt]; rfl
                      have FIN : Keep ([1, 0, 0, 0, 0, 0] = fe (pw x (num l / tp (64 * i + 4 * k)))) := ⟨by rw [← hsh, HE.out.2, ← H16.out]; congr 2; omega⟩
                      have hP0 := hP
                      have FINC : Keep _ := FIN
                      clear hd hdt hP0 FINC hsh
                      go_wp2_with (first
                        | (refine wpList_free (by rfl) ?_; refine wpList_load_row rfl 24 (.tmp 8) rfl g8 rfl _ _ _ _ hP.eq Tryd.underlying24 rfl (by first | kernel_rfl | (rw [vals_size, OL.out.1]; kernel_rfl)) ?_; dsimp only; simp only [Act.put, List.setIfInBounds_toArray, List.set_cons_zero, List.set_cons_succ])
                        | (refine wpList_free (by rfl) ?_; refine wpList_load_row rfl 24 (.tmp 5) rfl (S + 1 + 1) rfl _ _ _ _ hO.eq Tryd.underlying24 rfl (by kernel_rfl) ?_; dsimp only; simp only [Act.put, List.setIfInBounds_toArray, List.set_cons_zero, List.set_cons_succ]))
                      go_roundg k
                      case measure => omega
                      case rel => exact ⟨by omega, by go_num, by rw [← FIN.out]; exact hP, hT, hR, hO, hb⟩
                    · have hne : (d : Int) ≠ 0 := by omega
                      have hnb : ((d : Int) == 0) = false := by simpa using hne
                      have hnd : decide ((d : Int) = 0) = false := decide_eq_false hne
                      obtain ⟨ps, hps⟩ : ∃ p, fe (x ^ d) = p := ⟨_, rfl⟩
                      obtain ⟨qs, hqs⟩ : ∃ q, fe (pw x (num l / tp (64 * i + 4 * k))) = q := ⟨_, rfl⟩
                      have LQ : Keep (qs.length = 6) := ⟨hqs ▸ fe_len _⟩
                      have SEG : Keep (ps = (T.drop (d * 6)).take 6) := ⟨by rw [Nat.mul_comm, HT.out.row d (by omega), hps]⟩
                      have TL : Keep (d * 6 + 6 ≤ T.length) := ⟨by rw [HT.out.len]; omega⟩
                      have FIN : Keep (fe (num [1, 0, 0, 0, 0, 0] * num ps) = qs) := ⟨by
                        rw [← hps, pow_digit (x := x) (E := 16 * E) (by have := HE.out.1; omega) rfl H16.out, ← HE.out.2, hsh, hqs]⟩
                      have HQS : Keep _ := ⟨hqs⟩
                      have ML : Keep (∀ w', Below wr.heap.size wr w' → Calls Tryd.prog 20 #[.agg (vals .u64 [1, 0, 0, 0, 0, 0]), .agg (vals .u64 ps)] w' fun e w'' => e = .returned (.agg (vals .u64 qs)) ∧ Below w'.heap.size w' w'') := ⟨fun w' hb' => by
                        have := fpMul_c [1, 0, 0, 0, 0, 0] OL.out.1 OL.out.2 ps (hps ▸ fe_len _) (hps ▸ fe_words _) w' (HGG.out _ (hb.trans (hb'.mono (HSS.out _ hb))))
                        rwa [FIN.out] at this⟩
                      have LP : Keep (ps.length = 6) := ⟨hps ▸ fe_len _⟩
                      clear hps hqs hsh
                      go_wp2_with (first
                        | (refine wpList_free (by rfl) ?_; refine wpList_load_row rfl 24 (.tmp 8) rfl g8 rfl _ _ _ _ hP.eq Tryd.underlying24 rfl (by first | kernel_rfl | (rw [vals_size, OL.out.1]; kernel_rfl)) ?_; dsimp only; simp only [Act.put, List.setIfInBounds_toArray, List.set_cons_zero, List.set_cons_succ])
                        | (refine wpList_free (by rfl) ?_; refine wpList_load_row rfl 24 (.tmp 5) rfl (S + 1 + 1) rfl _ _ _ _ hO.eq Tryd.underlying24 rfl (by kernel_rfl) ?_; dsimp only; simp only [Act.put, List.setIfInBounds_toArray, List.set_cons_zero, List.set_cons_succ]))
                      refine wp_fam 5 (by kernel_rfl) (by kernel_rfl) (fun I hI' fw hf hback => ?_)
                      simp only [List.take_succ_cons, List.take_zero, List.drop_succ_cons, List.drop_zero]
                      repeat (first
                        | (go_big_quiet_want
                           first
                           | refine quiet_load_seg 24 (.tmp 63) (by rfl) g6 (d * 6) 6 (by rfl) 86 .u64 T ps _ (fun w' ⟨i, hi⟩ => by rw [hi]; exact hT.keep (hf i)) Tryd.underlying24 rfl (by kernel_rfl) SEG.out TL.out ?_
                           | refine quiet_load_seg 24 (.tmp 8) (by rfl) g8 0 6 (by rfl) 24 .u64 [1, 0, 0, 0, 0, 0] [1, 0, 0, 0, 0, 0] _ (fun w' ⟨i, hi⟩ => by rw [hi]; exact hP.keep (hf i)) Tryd.underlying24 rfl (by kernel_rfl) (by rw [List.drop_zero, take_all OL.out.1]) (by rw [OL.out.1]; omega) ?_
                           simp only [Act.put, List.setIfInBounds_toArray, List.set_cons_zero, List.set_cons_succ]
                           go_big_quiet_on)
                        | go_big_quiet_step (first | fail | (go_at_call 20; with_reducible exact calls_fam hf hback (ML.out _ (hf _)))))
                      refine wpQuiet_nil ?_
                      intro w3 hq3
                      have hP3 := hP.keep hq3
                      have hT3 := hT.keep hq3
                      have hR3 := hR.keep hq3
                      have hO3 := hO.keep hq3
                      have hb3 := hb.trans (hq3.mono (HSS.out _ hb))
                      clear hf hback hq3 hP hT hR hO hb hC
                      go_wp2_with (refine store_abs2 (by rfl) 24 (.tmp 8) (.tmp 65) (by rfl) (by rfl) g8 (vals .u64 qs) (by rfl) (by rfl) 24 (vals .u64 [1, 0, 0, 0, 0, 0]) hP3 (by rw [vals_size, LQ.out]; kernel_rfl) (by rw [vals_size, vals_size, LQ.out, OL.out.1]) vals_one ?_
                                   intro w4 hP4 hkeep hbg
                                   rw [← HQS.out] at hP4
                                   have hT4 := hkeep _ _ _ hT3 (by omega)
                                   have hR4 := hkeep _ _ _ hR3 (by omega)
                                   have hO4 := hkeep _ _ _ hO3 (by omega)
                                   have hb4 := hb3.trans (hbg.mono (by omega))
                                   clear hkeep hbg hP3 hT3 hR3 hO3 hb3)
                      go_roundg k
                      case measure => omega
                      case rel => exact ⟨by omega, by go_num, hP4, hT4, hR4, hO4, hb4⟩
                  · have E1 := eq6_ne o [1, 0, 0, 0, 0, 0] OL.out.1 rfl h1
                    obtain ⟨o2, ho2⟩ : ∃ o2, fe (num o * num o) = o2 := ⟨_, rfl⟩
                    have OL2 : Keep (o2.length = 6 ∧ fe (pw x (2 ^ (j + 1) * E)) = o2) := ⟨ho2 ▸ fe_len _, by
                      have h2 : (0 : Int) ≤ 2 ^ j * E := Int.mul_nonneg (Int.le_of_lt (Int.pow_pos (by omega))) HE.out.1
                      rw [← ho2, pow_square h2 HO.out, ← Int.mul_assoc, Int.pow_succ, Int.mul_comm 2]⟩
                    have ML : Keep (∀ w', Below S w w' → Calls Tryd.prog 20 #[.agg (vals .u64 o), .agg (vals .u64 o)] w' fun e w'' => e = .returned (.agg (vals .u64 o2)) ∧ Below w'.heap.size w' w'') := ⟨fun w' hb' => by
                      have := fpMul_c o OL.out.1 OL.out.2 o OL.out.1 OL.out.2 w' (HGG.out _ hb')
                      rwa [ho2] at this⟩
                    clear ho2 h1
                    go_wp2_with (first
                      | (refine wpList_free (by rfl) ?_; refine wpList_load_row rfl 24 (.tmp 8) rfl g8 rfl _ _ _ _ hP.eq Tryd.underlying24 rfl (by rw [vals_size, OL.out.1]; kernel_rfl) ?_; dsimp only; simp only [Act.put, List.setIfInBounds_toArray, List.set_cons_zero, List.set_cons_succ])
                      | (refine wpList_free (by rfl) ?_; refine wpList_load_row rfl 24 (.tmp 5) rfl (S + 1 + 1) rfl _ _ _ _ hO.eq Tryd.underlying24 rfl (by kernel_rfl) ?_; dsimp only; simp only [Act.put, List.setIfInBounds_toArray, List.set_cons_zero, List.set_cons_succ])
                      | (refine wpList_load_row rfl 24 (.tmp 8) rfl g8 rfl _ _ _ _ hP.eq Tryd.underlying24 rfl (by rw [vals_size, OL.out.1]; kernel_rfl) ?_)
                      | (refine store_abs2 (by rfl) 24 (.tmp 8) (.tmp 51) (by rfl) (by rfl) g8 (vals .u64 o2) (by rfl) (by rfl) 24 (vals .u64 o) hP1 (by rw [vals_size, OL2.out.1]; kernel_rfl) (by rw [vals_size, vals_size, OL2.out.1, OL.out.1]) vals_one ?_
                         intro w2 hP2 hkeep hbg
                         have hT2 := hkeep _ _ _ hT1 (by omega)
                         have hR2 := hkeep _ _ _ hR1 (by omega)
                         have hO2 := hkeep _ _ _ hO1 (by omega)
                         have hb2 := hb1.trans (hbg.mono (by omega))
                         clear hkeep hbg hP1 hT1 hR1 hO1 hb1)
                      | (go_at_call 20
                         refine (ML.out _ hb).mono ?_
                         rintro e w1 ⟨rfl, hq⟩
                         have hP1 := hP.keep hq
                         have hT1 := hT.keep hq
                         have hR1 := hR.keep hq
                         have hO1 := hO.keep hq
                         have hb1 := hb.trans (hq.mono (HSS.out _ hb))
                         clear hq hP hT hR hO hb))
                    go_roundg m
                    case measure => omega
                    case rel => exact ⟨j + 1, o2, by omega, by go_num, ⟨OL2.out.2⟩, hP2, hT2, hR2, hO2, hb2⟩
    · obtain ⟨i, rfl⟩ : ∃ i, k = i + 1 := ⟨k - 1, by omega⟩
      have hi15 : i < 15 := by omega
      have e1 : ((i + 1 : Nat) : Int) - 1 = (i : Int) := by omega
      obtain ⟨ps, hps⟩ : ∃ p, fe (x ^ i) = p := ⟨_, rfl⟩
      obtain ⟨qs, hqs⟩ : ∃ q, fe (x ^ (i + 1)) = q := ⟨_, rfl⟩
      have LQ : Keep (qs.length = 6) := ⟨hqs ▸ fe_len _⟩
      have SEG : Keep (ps = (T.drop (i * 6)).take 6) := ⟨by rw [Nat.mul_comm, HT.out.row i (by omega), hps]⟩
      have TL : Keep (i * 6 + 6 ≤ T.length ∧ (i + 1) * 6 + qs.length ≤ T.length) := ⟨by rw [HT.out.len, LQ.out]; omega⟩
      have HT' : Keep (Pows x (i + 1 + 1) (T.take ((i + 1) * 6) ++ (qs ++ T.drop ((i + 1) * 6 + qs.length)))) := ⟨by rw [Nat.mul_comm (i + 1) 6]; exact HT.out.more (by omega) hqs⟩
      have ML : Keep (∀ w', Below wr.heap.size wr w' → Calls Tryd.prog 20 #[.agg (vals .u64 ps), .agg (vals .u64 a)] w' fun e w'' => e = .returned (.agg (vals .u64 qs)) ∧ Below w'.heap.size w' w'') := ⟨fun w' hb' => by
        have := fpMul_c ps (hps ▸ fe_len _) (hps ▸ fe_words _) a LA.out WA.out w' (HGG.out _ (hb.trans (hb'.mono (HSS.out _ hb))))
        rwa [← hps, pow_next HX.out, hqs, hps] at this⟩
      clear hps hqs
      go_wp2
      refine wp_fam 8 (by kernel_rfl) (by kernel_rfl) (fun I hI' fw hf hback => ?_)
      simp only [List.take_succ_cons, List.take_zero, List.drop_succ_cons, List.drop_zero]
      repeat (first
        | (go_big_quiet_want
           first
           | refine quiet_load_seg 24 (.tmp 23) (by rfl) g6 (i * 6) 6 (by rfl) 86 .u64 T ps _ (fun w' ⟨i, hi⟩ => by rw [hi]; exact hT.keep (hf i)) Tryd.underlying24 rfl (by kernel_rfl) SEG.out TL.out.1 ?_
           | refine quiet_load_seg 24 (.tmp 2) (by rfl) S 0 6 (by rfl) 24 .u64 a a _ (fun w' ⟨i, hi⟩ => by rw [hi]; exact hA.keep (hf i)) Tryd.underlying24 rfl (by kernel_rfl) (by rw [List.drop_zero, take_all LA.out]) (by rw [LA.out]; omega) ?_
           simp only [Act.put, List.setIfInBounds_toArray, List.set_cons_zero, List.set_cons_succ]
           go_big_quiet_on)
        | go_big_quiet_step (first | fail | (go_at_call 20; with_reducible exact calls_fam hf hback (ML.out _ (hf _)))))
      refine wpQuiet_nil ?_
      intro w3 hq
      have hT3 := hT.keep hq
      have hA3 := hA.keep hq
      have hR3 := hR.keep hq
      have hO3 := hO.keep hq
      have hb3 := hb.trans (hq.mono (HSS.out _ hb))
      clear hf hback hq hT hA hR hO hb
      refine store_seg (by rfl) 24 (.tmp 27) (.tmp 26) (by rfl) (by rfl) g6 ((i + 1) * 6) .u64 qs (by rfl) (by rfl) 86 T hT3 (by rw [LQ.out]; kernel_rfl) TL.out.2 _ rfl ?_
      intro w4 hT4 hon
      have hA4 := hon.has hA3 (by omega)
      have hR4 := hon.has hR3 (by omega)
      have hO4 := hon.has hO3 (by omega)
      have hb4 := hb3.trans (hon.below (B := S) (by omega) (HSS.out _ hb3))
      clear hT3 hA3 hR3 hO3 hb3 hon
      go_wp2
      go_roundg m
      case measure => omega
      case rel => exact ⟨i + 1 + 1, _, by omega, by omega, by go_num, HT', hT4, hA4, hR4, hO4, hb4⟩
end Go.Proofs.YtoogmgckbalboaaDoor.Fp

/-
  Own text. The contract of Pow of package fp.
-/
namespace Go.Proofs.YtoogmgckbalboaaDoor.Fp
set_option linter.unusedVariables false
set_option linter.unusedSimpArgs false
open Go Go.RowKit Go.Proofs.YtoogmgckbalboaaDoor.Reg Go.Proofs.YtoogmgckbalboaaDoor.Base Go.Proofs.YtoogmgckbalboaaDoor.Limb Go.Proofs.YtoogmgckbalboaaDoor.Bits

theorem num_nil : num [] = 0 := rfl
set_option maxRecDepth 100000 in
set_option maxHeartbeats 2000000 in
theorem pow_zero_w (a : List Int) (hla : a.length = 6) (hwa : Words a) (A : Option Addr) (n c : Nat) (l : List Int) (B : Nat) (w : World) (hG : Glob w) (hr : Rd w B A n .u64 l) (hw : Words l) (hB : B ≤ w.heap.size) (hn : n ≤ 10000) (hz : num l = 0) : Calls Tryd.prog 77 #[.agg (vals .u64 a), .slice A n c] w fun e w' => e = .returned (.agg (vals .u64 (fe (pw (num a) (num l))))) ∧ Below w.heap.size w w' := by
  have LN : Keep _ := ⟨hr.len⟩
  have LW : Keep _ := ⟨hw⟩
  obtain ⟨o, ho⟩ : ∃ o, fe (pw (num a) (num l)) = o := ⟨_, rfl⟩
  have OL : Keep (o.length = 6) := ⟨by rw [← ho]; exact fe_len _⟩
  have LA : Keep _ := ⟨hla⟩
  have WA : Keep _ := ⟨hwa⟩
  obtain ⟨S, hS⟩ : ∃ S, w.heap.size = S := ⟨_, rfl⟩
  have hA0 : Has ((w.alloc (.cells (vals .u64 a) 24)).alloc (.cells (vals .u64 Z6) 24)) S 24 (vals .u64 a) := by exact (Has.new' _ hS.symm _ _).alloc _
  have hR0 : Has ((w.alloc (.cells (vals .u64 a) 24)).alloc (.cells (vals .u64 Z6) 24)) (S + 1) 24 (vals .u64 Z6) := by exact Has.new' _ (by rw [World.size_alloc, hS]) _ _
  have hb0 : Below S w ((w.alloc (.cells (vals .u64 a) 24)).alloc (.cells (vals .u64 Z6) 24)) := by rw [← hS]; exact ((Below.refl _ _).alloc (Nat.le_refl _) _).alloc (by simp) _
  have HS0 : Keep (S ≤ w.heap.size) := ⟨by omega⟩
  have FR : Keep (Free S) := ⟨hG.free (by omega)⟩
  have HSS : Keep (∀ w', Below S w w' → S ≤ w'.heap.size) := ⟨fun w' hb => Nat.le_trans HS0.out hb.size⟩
  have HGG : Keep (∀ w', Below S w w' → Glob w') := ⟨fun w' hb => hG.keep (by rw [hS]; exact hb)⟩
  have HRD : Keep (∀ w', Below S w w' → Rd w' B A n .u64 l) := ⟨fun w' hb => hr.keep hb (by omega)⟩
  have HBS : Keep (B ≤ S) := ⟨by omega⟩
  have hgd := gd6
  have HO : Keep _ := ⟨ho⟩
  rw [ho, hS]
  obtain ⟨x, hx⟩ : ∃ x, fe (num a) = x := ⟨_, rfl⟩
  have LX : Keep (x.length = 6 ∧ Words x) := ⟨by rw [← hx]; exact fe_len _, by rw [← hx]; exact fe_words _⟩
  have HX : Keep _ := ⟨hx⟩
  clear hla hwa hG hw hr hx ho hB
  have HC : Keep (cmpL l [] = 0) := ⟨by rw [cmpL, hz, num_nil]; rfl⟩
  have FIN : Keep ([1, 0, 0, 0, 0, 0] = o) := ⟨by rw [← HO.out, hz, pw_zero, fe_one]⟩
  clear hz
  have CM : Keep (∀ w', Below S w w' → Calls Tryd.prog 70 #[.slice A n c, .slice none 0 0] w' fun e w'' => e = .returned (.int .i64 0) ∧ Below w'.heap.size w' w'') := ⟨fun w' hb' => by
    have := cmp_c A n c l none 0 0 [] B w' (HRD.out _ hb') LW.out ⟨rfl, fun h => absurd h (by omega)⟩ (words_of _ (by intro i hi; simp at hi)) (Nat.le_trans HBS.out (HSS.out _ hb')) hn (by omega)
    rwa [HC.out] at this⟩
  go_enter Tryd.func77, Tryd.ntmps77
  go_wp2_with (first
    | (refine wpList_buildTo (by rfl) 24 #[(0, .const (.int .u64 1))] (by rfl) (some 10) (by rfl) (vals .u64 [1, 0, 0, 0, 0, 0]) (by kernel_rfl) ?_)
    | (refine wpList_store_rowTo rfl 24 (.tmp 4) (.tmp 10) rfl rfl (S + 1) (vals .u64 [1, 0, 0, 0, 0, 0]) rfl rfl _ _ hR2.eq (by first | (rw [vals_size, OL.out]; kernel_rfl) | kernel_rfl) (by first | (rw [vals_size, vals_size, OL.out]; rfl) | rfl) vals_one ?_)
    | (go_at_call 70
       refine (CM.out _ hb1).mono ?_
       rintro e w2 ⟨rfl, hq⟩
       have hA2 := hA1.keep hq
       have hR2 := hR1.keep hq
       have hb2 := hb1.trans (hq.mono (HSS.out _ hb1))
       clear hq hA1 hR1 hb1)
    | (go_at_call 47
       refine (fpLower_c S 24 a LA.out WA.out FR.out _ (HGG.out _ hb0) hA0).mono ?_
       rintro e w1 ⟨rfl, hA1, ho⟩
       rw [HX.out] at hA1
       have hR1 := ho.has hR0 (by omega)
       have hb1 := hb0.trans (ho.below (B := S) (by omega) (HSS.out _ hb0))
       clear ho hA0 hR0 hb0))
  refine bodyPost_ret (v := .agg (vals .u64 [1, 0, 0, 0, 0, 0])) (results_cell_row rfl _ _ (S + 1) _ _ _ _ rfl (hR2.row _).eq Tryd.underlying24 rfl (by first | (rw [vals_size, OL.out]; kernel_rfl) | kernel_rfl)) rfl ⟨by first | rfl | rw [FIN.out], below_row hb2 (by omega) _⟩
set_option maxRecDepth 100000 in
set_option maxHeartbeats 2000000 in
theorem pow_nought_w (a : List Int) (hla : a.length = 6) (hwa : Words a) (A : Option Addr) (n c : Nat) (l : List Int) (B : Nat) (w : World) (hG : Glob w) (hr : Rd w B A n .u64 l) (hw : Words l) (hB : B ≤ w.heap.size) (hn : n ≤ 10000) (hz : num l ≠ 0) (hx0 : fe (num a) = Z6) : Calls Tryd.prog 77 #[.agg (vals .u64 a), .slice A n c] w fun e w' => e = .returned (.agg (vals .u64 (fe (pw (num a) (num l))))) ∧ Below w.heap.size w w' := by
  have LN : Keep _ := ⟨hr.len⟩
  have LW : Keep _ := ⟨hw⟩
  obtain ⟨o, ho⟩ : ∃ o, fe (pw (num a) (num l)) = o := ⟨_, rfl⟩
  have OL : Keep (o.length = 6) := ⟨by rw [← ho]; exact fe_len _⟩
  have LA : Keep _ := ⟨hla⟩
  have WA : Keep _ := ⟨hwa⟩
  obtain ⟨S, hS⟩ : ∃ S, w.heap.size = S := ⟨_, rfl⟩
  have hA0 : Has ((w.alloc (.cells (vals .u64 a) 24)).alloc (.cells (vals .u64 Z6) 24)) S 24 (vals .u64 a) := by exact (Has.new' _ hS.symm _ _).alloc _
  have hR0 : Has ((w.alloc (.cells (vals .u64 a) 24)).alloc (.cells (vals .u64 Z6) 24)) (S + 1) 24 (vals .u64 Z6) := by exact Has.new' _ (by rw [World.size_alloc, hS]) _ _
  have hb0 : Below S w ((w.alloc (.cells (vals .u64 a) 24)).alloc (.cells (vals .u64 Z6) 24)) := by rw [← hS]; exact ((Below.refl _ _).alloc (Nat.le_refl _) _).alloc (by simp) _
  have HS0 : Keep (S ≤ w.heap.size) := ⟨by omega⟩
  have FR : Keep (Free S) := ⟨hG.free (by omega)⟩
  have HSS : Keep (∀ w', Below S w w' → S ≤ w'.heap.size) := ⟨fun w' hb => Nat.le_trans HS0.out hb.size⟩
  have HGG : Keep (∀ w', Below S w w' → Glob w') := ⟨fun w' hb => hG.keep (by rw [hS]; exact hb)⟩
  have HRD : Keep (∀ w', Below S w w' → Rd w' B A n .u64 l) := ⟨fun w' hb => hr.keep hb (by omega)⟩
  have HBS : Keep (B ≤ S) := ⟨by omega⟩
  have hgd := gd6
  have HO : Keep _ := ⟨ho⟩
  rw [ho, hS]
  obtain ⟨x, hx⟩ : ∃ x, fe (num a) = x := ⟨_, rfl⟩
  have LX : Keep (x.length = 6 ∧ Words x) := ⟨by rw [← hx]; exact fe_len _, by rw [← hx]; exact fe_words _⟩
  have HX : Keep _ := ⟨hx⟩
  clear hla hwa hG hw hr hx ho hB
  have HC : Keep (cmpL l [] = 1) := ⟨by
    have := (num_bounds LW.out).1
    rw [cmpL, num_nil, if_neg (by omega), if_neg hz]⟩
  have FIN : Keep (Z6 = o) := ⟨by
    have h1 : num a % PP = 0 := by
      have : num (fe (num a)) = 0 := by rw [hx0]; decide +kernel
      rwa [num_fe] at this
    have := (num_bounds LW.out).1
    rw [← HO.out, ← fe_zero]
    exact (fe_congr (by rw [pw_nought h1 (by omega)]; rfl)).symm⟩
  obtain rfl : x = Z6 := HX.out.symm.trans hx0
  have E1 := eq6 Z6 rfl
  clear hz hx0
  have CM : Keep (∀ w', Below S w w' → Calls Tryd.prog 70 #[.slice A n c, .slice none 0 0] w' fun e w'' => e = .returned (.int .i64 1) ∧ Below w'.heap.size w' w'') := ⟨fun w' hb' => by
    have := cmp_c A n c l none 0 0 [] B w' (HRD.out _ hb') LW.out ⟨rfl, fun h => absurd h (by omega)⟩ (words_of _ (by intro i hi; simp at hi)) (Nat.le_trans HBS.out (HSS.out _ hb')) hn (by omega)
    rwa [HC.out] at this⟩
  go_enter Tryd.func77, Tryd.ntmps77
  go_wp2_with (first
    | (refine wpList_load_row rfl 24 (.tmp 2) rfl S rfl _ _ _ _ hA2.eq Tryd.underlying24 rfl (by first | (rw [vals_size, LX.out.1]; kernel_rfl) | kernel_rfl) ?_)
    | (refine wpList_buildTo (by rfl) 24 #[] (by rfl) (some 12) (by rfl) (vals .u64 Z6) (by kernel_rfl) ?_)
    | (refine wpList_store_rowTo rfl 24 (.tmp 4) (.tmp 14) rfl rfl (S + 1) (vals .u64 Z6) rfl rfl _ _ hR2.eq (by first | (rw [vals_size, OL.out]; kernel_rfl) | kernel_rfl) (by first | (rw [vals_size, vals_size, OL.out]; rfl) | rfl) vals_one ?_)
    | (go_at_call 70
       refine (CM.out _ hb1).mono ?_
       rintro e w2 ⟨rfl, hq⟩
       have hA2 := hA1.keep hq
       have hR2 := hR1.keep hq
       have hb2 := hb1.trans (hq.mono (HSS.out _ hb1))
       clear hq hA1 hR1 hb1)
    | (go_at_call 47
       refine (fpLower_c S 24 a LA.out WA.out FR.out _ (HGG.out _ hb0) hA0).mono ?_
       rintro e w1 ⟨rfl, hA1, ho⟩
       rw [HX.out] at hA1
       have hR1 := ho.has hR0 (by omega)
       have hb1 := hb0.trans (ho.below (B := S) (by omega) (HSS.out _ hb0))
       clear ho hA0 hR0 hb0))
  refine bodyPost_ret (v := .agg (vals .u64 Z6)) (results_cell_row rfl _ _ (S + 1) _ _ _ _ rfl (hR2.row _).eq Tryd.underlying24 rfl (by first | (rw [vals_size, OL.out]; kernel_rfl) | kernel_rfl)) rfl ⟨by first | rfl | rw [FIN.out], below_row hb2 (by omega) _⟩
set_option maxRecDepth 100000 in
set_option maxHeartbeats 2000000 in
theorem pow_short_w (a : List Int) (hla : a.length = 6) (hwa : Words a) (A : Option Addr) (n c : Nat) (l : List Int) (B : Nat) (w : World) (hG : Glob w) (hr : Rd w B A n .u64 l) (hw : Words l) (hB : B ≤ w.heap.size) (hn : n ≤ 10000) (hz : num l ≠ 0) (hx0 : fe (num a) ≠ Z6) (hn6 : n ≤ 6) : Calls Tryd.prog 77 #[.agg (vals .u64 a), .slice A n c] w fun e w' => e = .returned (.agg (vals .u64 (fe (pw (num a) (num l))))) ∧ Below w.heap.size w w' := by
  have LN : Keep _ := ⟨hr.len⟩
  have LW : Keep _ := ⟨hw⟩
  obtain ⟨o, ho⟩ : ∃ o, fe (pw (num a) (num l)) = o := ⟨_, rfl⟩
  have OL : Keep (o.length = 6) := ⟨by rw [← ho]; exact fe_len _⟩
  have LA : Keep _ := ⟨hla⟩
  have WA : Keep _ := ⟨hwa⟩
  obtain ⟨S, hS⟩ : ∃ S, w.heap.size = S := ⟨_, rfl⟩
  have hA0 : Has ((w.alloc (.cells (vals .u64 a) 24)).alloc (.cells (vals .u64 Z6) 24)) S 24 (vals .u64 a) := by exact (Has.new' _ hS.symm _ _).alloc _
  have hR0 : Has ((w.alloc (.cells (vals .u64 a) 24)).alloc (.cells (vals .u64 Z6) 24)) (S + 1) 24 (vals .u64 Z6) := by exact Has.new' _ (by rw [World.size_alloc, hS]) _ _
  have hb0 : Below S w ((w.alloc (.cells (vals .u64 a) 24)).alloc (.cells (vals .u64 Z6) 24)) := by rw [← hS]; exact ((Below.refl _ _).alloc (Nat.le_refl _) _).alloc (by simp) _
  have HS0 : Keep (S ≤ w.heap.size) := ⟨by omega⟩
  have FR : Keep (Free S) := ⟨hG.free (by omega)⟩
  have HSS : Keep (∀ w', Below S w w' → S ≤ w'.heap.size) := ⟨fun w' hb => Nat.le_trans HS0.out hb.size⟩
  have HGG : Keep (∀ w', Below S w w' → Glob w') := ⟨fun w' hb => hG.keep (by rw [hS]; exact hb)⟩
  have HRD : Keep (∀ w', Below S w w' → Rd w' B A n .u64 l) := ⟨fun w' hb => hr.keep hb (by omega)⟩
  have HBS : Keep (B ≤ S) := ⟨by omega⟩
  have hgd := gd6
  have HO : Keep _ := ⟨ho⟩
  rw [ho, hS]
  obtain ⟨x, hx⟩ : ∃ x, fe (num a) = x := ⟨_, rfl⟩
  have LX : Keep (x.length = 6 ∧ Words x) := ⟨by rw [← hx]; exact fe_len _, by rw [← hx]; exact fe_words _⟩
  have HX : Keep _ := ⟨hx⟩
  clear hla hwa hG hw hr hx ho hB
  have HC : Keep (cmpL l [] = 1) := ⟨by
    have := (num_bounds LW.out).1
    rw [cmpL, num_nil, if_neg (by omega), if_neg hz]⟩
  have E1 := eq6_ne x Z6 LX.out.1 rfl (by rw [← HX.out]; exact hx0)
  have SP : Keep (∀ w', Below S w w' → Calls Tryd.prog 85 #[.agg (vals .u64 x), .slice A n c] w' fun e w'' => e = .returned (.agg (vals .u64 o)) ∧ Below w'.heap.size w' w'') := ⟨fun w' hb' => by
    have := shortPow_c x LX.out.1 LX.out.2 A n c l B w' (HGG.out _ hb') (HRD.out _ hb') LW.out (Nat.le_trans HBS.out (HSS.out _ hb')) (by omega)
    rwa [← HX.out, fe_pw, HO.out, HX.out] at this⟩
  clear hz hx0
  have CM : Keep (∀ w', Below S w w' → Calls Tryd.prog 70 #[.slice A n c, .slice none 0 0] w' fun e w'' => e = .returned (.int .i64 1) ∧ Below w'.heap.size w' w'') := ⟨fun w' hb' => by
    have := cmp_c A n c l none 0 0 [] B w' (HRD.out _ hb') LW.out ⟨rfl, fun h => absurd h (by omega)⟩ (words_of _ (by intro i hi; simp at hi)) (Nat.le_trans HBS.out (HSS.out _ hb')) hn (by omega)
    rwa [HC.out] at this⟩
  go_enter Tryd.func77, Tryd.ntmps77
  go_wp2_with (first
    | (refine wpList_load_row rfl 24 (.tmp 2) rfl S rfl _ _ _ _ hA2.eq Tryd.underlying24 rfl (by first | (rw [vals_size, LX.out.1]; kernel_rfl) | kernel_rfl) ?_)
    | (refine wpList_buildTo (by rfl) 24 #[] (by rfl) (some 12) (by rfl) (vals .u64 Z6) (by kernel_rfl) ?_)
    | (refine wpList_store_rowTo rfl 24 (.tmp 4) (.tmp 28) rfl rfl (S + 1) (vals .u64 o) rfl rfl _ _ hR3.eq (by first | (rw [vals_size, OL.out]; kernel_rfl) | kernel_rfl) (by first | (rw [vals_size, vals_size, OL.out]; rfl) | rfl) vals_one ?_)
    | (go_at_call 85
       refine (SP.out _ hb2).mono ?_
       rintro e w3 ⟨rfl, hq⟩
       have hR3 := hR2.keep hq
       have hb3 := hb2.trans (hq.mono (HSS.out _ hb2))
       clear hq hA2 hR2 hb2)
    | (go_at_call 70
       refine (CM.out _ hb1).mono ?_
       rintro e w2 ⟨rfl, hq⟩
       have hA2 := hA1.keep hq
       have hR2 := hR1.keep hq
       have hb2 := hb1.trans (hq.mono (HSS.out _ hb1))
       clear hq hA1 hR1 hb1)
    | (go_at_call 47
       refine (fpLower_c S 24 a LA.out WA.out FR.out _ (HGG.out _ hb0) hA0).mono ?_
       rintro e w1 ⟨rfl, hA1, ho⟩
       rw [HX.out] at hA1
       have hR1 := ho.has hR0 (by omega)
       have hb1 := hb0.trans (ho.below (B := S) (by omega) (HSS.out _ hb0))
       clear ho hA0 hR0 hb0))
  refine bodyPost_ret (v := .agg (vals .u64 o)) (results_cell_row rfl _ _ (S + 1) _ _ _ _ rfl (hR3.row _).eq Tryd.underlying24 rfl (by first | (rw [vals_size, OL.out]; kernel_rfl) | kernel_rfl)) rfl ⟨by first | rfl | rw [FIN.out], below_row hb3 (by omega) _⟩
end Go.Proofs.YtoogmgckbalboaaDoor.Fp

/-
  Own text. The contracts of package limb: Mod; with the others' texts, all of the package.
-/
namespace Go.Proofs.YtoogmgckbalboaaDoor.Limb
open Go Go.RowKit Go.Proofs.YtoogmgckbalboaaDoor.Reg Go.Proofs.YtoogmgckbalboaaDoor.Base Go.Proofs.YtoogmgckbalboaaDoor.Bits

/-- A number whose top word is not 0. -/
theorem top_num {m : List Int} (hw : Words m) {k j : Nat} (hl : m.length = k) (hj : j + 1 = k) : num m = low m j + wp j * nth m j ∧ 0 ≤ low m j ∧ low m j < wp j := by
  have b := low_bounds hw j
  refine ⟨by rw [num, hl, ← hj, low_succ], b.1, b.2⟩
theorem trim_zero {m : List Int} (hw : Words m) {k : Nat} (h : num (m.take k) = 0) (hk : k ≤ m.length) (hn : 0 < k → nth m (k - 1) ≠ 0) : k = 0 := by
  rcases Nat.eq_zero_or_pos k with h0 | h0
  · exact h0
  · exfalso
    have t := top_num (words_take hw k) (k := k) (j := k - 1) (by simp; omega) (by omega)
    rw [nth_take (by omega), h] at t
    have hne := hn h0
    have b := hw (k - 1)
    have : wp (k - 1) * 1 ≤ wp (k - 1) * nth m (k - 1) := Int.mul_le_mul_of_nonneg_left (by omega) (Int.le_of_lt (wp_pos _))
    have := wp_pos (k - 1)
    omega

set_option maxRecDepth 100000 in
set_option maxHeartbeats 1000000 in
theorem mod_no (A : Option Addr) (n c : Nat) (a : List Int) (A' : Option Addr) (n' c' : Nat) (m : List Int) (B : Nat) (w : World) (_hr : Rd w B A n .u64 a) (_hwa : Words a) (hr' : Rd w B A' n' .u64 m) (hwm : Words m) (_hB : B ≤ w.heap.size) (_hn : n ≤ 10000) (hn' : n' ≤ 10000) (hcap : n' ≤ c') (hm : num m = 0) :
    Calls Tryd.prog 84 #[.slice A n c, .slice A' n' c'] w fun e w' => ∃ A'' c'', e = .returned (.tuple #[.slice A'' 0 c'', .int .i64 30]) ∧ Below w.heap.size w w' := by
  have HZ : Keep (∀ k, k ≤ n' → num (m.take k) = num m → (0 < k → nth m (k - 1) ≠ 0) → k = 0) := ⟨fun k h1 h2 h3 => trim_zero hwm (h2.trans hm) (by rw [hr'.len]; exact h1) h3⟩
  have TR : Keep _ := ⟨trimmed_c A' n' c' m B w hr' hn' hcap⟩
  clear hwm hm
  go_enter Tryd.func84, Tryd.ntmps84
  go_wp2_with (go_at_call 93
               refine TR.out.mono ?_
               rintro e w1 ⟨k, rfl, hk, hkn, hkt, rfl⟩
               obtain rfl : k = 0 := HZ.out k hk hkn hkt
               clear hkn hkt)
  go_ret2
  exact ⟨none, 0, rfl, Below.refl _ _⟩

/-- The divisor, shifted until its top bit is 1. -/
theorem shifted_div {m : List Int} (hw : Words m) {k j s : Nat} (hl : m.length = k) (hj : j + 1 = k) (h1 : 9223372036854775808 ≤ nth m j * 2 ^ s) (h2 : nth m j * 2 ^ s < 18446744073709551616) (hs : s ≤ 63) :
    num ((wd (k + 1) (num m * 2 ^ s)).take k) = num m * 2 ^ s ∧ 9223372036854775808 ≤ nth ((wd (k + 1) (num m * 2 ^ s)).take k) j ∧ wp j * 2 ^ s ≤ num m * 2 ^ s := by
  have t := top_num hw hl hj
  have p1 : (0 : Int) < 2 ^ s := Int.pow_pos (by omega)
  have pj := wp_pos j
  have eW : (18446744073709551616 : Int) = 2 ^ s * 2 ^ (64 - s) := by rw [← Int.pow_add, show s + (64 - s) = 64 by omega]; rfl
  have b := hw j
  have ht1 : 1 ≤ nth m j := by
    rcases Int.lt_or_le 0 (nth m j) with h | h
    · omega
    · have : nth m j = 0 := by omega
      rw [this, Int.zero_mul] at h1
      omega
  have ht2 : nth m j + 1 ≤ 2 ^ (64 - s) := by
    have : 2 ^ s * nth m j < 2 ^ s * 2 ^ (64 - s) := by rw [← eW, Int.mul_comm]; exact h2
    have := Int.lt_of_mul_lt_mul_left this (Int.le_of_lt p1)
    omega
  have u1 : num m < wp j * (nth m j + 1) := by rw [Int.mul_add, Int.mul_one]; omega
  have u2 : num m * 2 ^ s < wp j * (nth m j + 1) * 2 ^ s := Int.mul_lt_mul_of_pos_right u1 p1
  have u3 : wp j * (nth m j + 1) * 2 ^ s ≤ wp k := by
    rw [← hj, wp_succ, Int.mul_assoc]
    refine Int.mul_le_mul_of_nonneg_left ?_ (Int.le_of_lt pj)
    rw [eW, Int.mul_comm]
    exact Int.mul_le_mul_of_nonneg_left ht2 (Int.le_of_lt p1)
  have l1 : wp j * (nth m j * 2 ^ s) ≤ num m * 2 ^ s := by
    rw [← Int.mul_assoc]
    exact Int.mul_le_mul_of_nonneg_right (by omega) (Int.le_of_lt p1)
  have l0 : 0 ≤ num m * 2 ^ s := by
    have : 0 ≤ wp j * (nth m j * 2 ^ s) := Int.mul_nonneg (Int.le_of_lt pj) (by omega)
    omega
  have hu : num m * 2 ^ s < wp k := by omega
  rw [wd_take (by omega)]
  refine ⟨num_wd_of l0 hu, ?_, ?_⟩
  · rw [wd_nth _ (by omega)]
    have q1 : 9223372036854775808 ≤ num m * 2 ^ s / wp j := Int.le_ediv_of_mul_le pj (by
      have : wp j * 9223372036854775808 ≤ wp j * (nth m j * 2 ^ s) := Int.mul_le_mul_of_nonneg_left h1 (Int.le_of_lt pj)
      rw [Int.mul_comm]; omega)
    have q2 : num m * 2 ^ s / wp j < 18446744073709551616 := Int.ediv_lt_of_lt_mul pj (by rw [← hj, wp_succ] at hu; omega)
    rw [Int.emod_eq_of_lt (by omega) q2]
    exact q1
  · have : wp j * 1 ≤ num m := by
      have : wp j * 1 ≤ wp j * nth m j := Int.mul_le_mul_of_nonneg_left ht1 (Int.le_of_lt pj)
      omega
    rw [Int.mul_one] at this
    exact Int.mul_le_mul_of_nonneg_right this (Int.le_of_lt p1)
/-- The dividend's top, as many words as the divisor has, is below it. -/
theorem shifted_high {a : List Int} (hw : Words a) {n k j s : Nat} (hl : a.length = n) (hj : j + 1 = k) {M : Int} (hM : wp j * 2 ^ s ≤ M) (hs : s ≤ 63) : num ((wd (n + 1) (num a * 2 ^ s)).drop (n + 1 - k)) < M := by
  have b := num_bounds hw
  rw [hl] at b
  have p1 : (0 : Int) < 2 ^ s := Int.pow_pos (by omega)
  have eW : (18446744073709551616 : Int) = 2 ^ s * 2 ^ (64 - s) := by rw [← Int.pow_add, show s + (64 - s) = 64 by omega]; rfl
  have p2 : (0 : Int) < 2 ^ (64 - s) := Int.pow_pos (by omega)
  have hsW : (2 : Int) ^ s ≤ 18446744073709551616 := by
    have : (2 : Int) ^ s * 1 ≤ 2 ^ s * 2 ^ (64 - s) := Int.mul_le_mul_of_nonneg_left (by omega) (Int.le_of_lt p1)
    omega
  have v0 : 0 ≤ num a * 2 ^ s := Int.mul_nonneg b.1 (Int.le_of_lt p1)
  have v1 : num a * 2 ^ s < wp n * 2 ^ s := Int.mul_lt_mul_of_pos_right b.2 p1
  have v2 : wp n * 2 ^ s ≤ wp (n + 1) := by rw [wp_succ]; exact Int.mul_le_mul_of_nonneg_left hsW (Int.le_of_lt (wp_pos n))
  have hn : num (wd (n + 1) (num a * 2 ^ s)) = num a * 2 ^ s := num_wd_of v0 (by omega)
  have sp := num_split (wd (n + 1) (num a * 2 ^ s)) (n + 1 - k) (by rw [wd_len]; omega)
  rw [hn] at sp
  have lb := low_bounds (wd_words (n + 1) (num a * 2 ^ s)) (n + 1 - k)
  have pw := wp_pos (n + 1 - k)
  rcases Nat.lt_or_ge (n + 1) k with h | h
  · have e : n + 1 - k = 0 := by omega
    rw [e, wp_zero, low_zero] at sp
    rw [e]
    have := wp_le (show n ≤ j by omega)
    have : wp n * 2 ^ s ≤ wp j * 2 ^ s := Int.mul_le_mul_of_nonneg_right this (Int.le_of_lt p1)
    omega
  · have e : wp n = wp (n + 1 - k) * wp j := by rw [← wp_add]; congr 1; omega
    rw [e, Int.mul_assoc] at v1
    have h3 : wp (n + 1 - k) * num ((wd (n + 1) (num a * 2 ^ s)).drop (n + 1 - k)) < wp (n + 1 - k) * (wp j * 2 ^ s) := by omega
    have := Int.lt_of_mul_lt_mul_left h3 (Int.le_of_lt pw)
    omega
/-- One word of a number shifted down. -/
theorem shr_word {R : List Int} (hw : Words R) {v : Int} {s t i : Nat} (hs : s + t = 64) (hv : num R = v * 2 ^ s) :
    0 ≤ nth R i / 2 ^ s ∧ nth R i / 2 ^ s < 2 ^ t ∧ nth R i / 2 ^ s < 18446744073709551616 ∧ nth R (i + 1) * 2 ^ t % 18446744073709551616 % 2 ^ t = 0 ∧ nth R i / 2 ^ s + nth R (i + 1) * 2 ^ t % 18446744073709551616 = v / wp i % 18446744073709551616 := by
  have p1 : (0 : Int) < 2 ^ s := Int.pow_pos (by omega)
  have p2 : (0 : Int) < 2 ^ t := Int.pow_pos (by omega)
  have eW : (18446744073709551616 : Int) = 2 ^ s * 2 ^ t := by rw [← Int.pow_add, hs]; rfl
  have x1 := num_word R hw i
  have x2 := num_word R hw (i + 1)
  have b1 := hw i
  have b2 := hw (i + 1)
  obtain ⟨u, hu⟩ : ∃ u, num R / wp i = u := ⟨_, rfl⟩
  have e2 : num R / wp (i + 1) = u / 18446744073709551616 := by rw [← hu, div_div (wp_pos i), wp_succ]
  rw [hu] at x1
  rw [e2] at x2
  have e3 : v / wp i = u / 2 ^ s := by
    rw [← hu, hv, div_div (wp_pos i), Int.mul_comm (wp i), ← div_div p1, Int.mul_ediv_cancel _ (Int.ne_of_gt p1)]
  have d0 : 0 ≤ nth R i / 2 ^ s := Int.ediv_nonneg b1.1 (Int.le_of_lt p1)
  have d1 : nth R i / 2 ^ s < 2 ^ t := Int.ediv_lt_of_lt_mul p1 (by rw [Int.mul_comm, ← eW]; omega)
  have hm1 : nth R (i + 1) * 2 ^ t % 18446744073709551616 = 2 ^ t * (nth R (i + 1) % 2 ^ s) := by rw [eW, Int.mul_comm (2 ^ s), Int.mul_comm (nth R (i + 1)), Int.mul_emod_mul_of_pos _ _ p2]
  have hm2 : 2 ^ t * (nth R (i + 1) % 2 ^ s) ≤ 18446744073709551616 - 2 ^ t := by
    have h1 := Int.emod_lt_of_pos (nth R (i + 1)) p1
    have h2 : (2 : Int) ^ t * (nth R (i + 1) % 2 ^ s) ≤ 2 ^ t * (2 ^ s - 1) := Int.mul_le_mul_of_nonneg_left (by omega) (Int.le_of_lt p2)
    rw [Int.mul_sub, Int.mul_comm (2 ^ t) (2 ^ s), ← eW, Int.mul_one] at h2
    exact h2
  have hm3 : 0 ≤ 2 ^ t * (nth R (i + 1) % 2 ^ s) := Int.mul_nonneg (Int.le_of_lt p2) (Int.emod_nonneg _ (Int.ne_of_gt p1))
  have p64 : (2 : Int) ^ t ≤ 18446744073709551616 := by
    have : (2 : Int) ^ t * 1 ≤ 2 ^ t * 2 ^ s := Int.mul_le_mul_of_nonneg_left (by omega) (Int.le_of_lt p2)
    rw [Int.mul_comm (2 ^ t) (2 ^ s), ← eW] at this
    omega
  refine ⟨d0, d1, by omega, by rw [hm1, Int.mul_emod_right], ?_⟩
  rw [hm1, e3]
  have q1 := Int.mul_ediv_add_emod u 18446744073709551616
  rw [x1] at q1
  obtain ⟨y, hy⟩ : ∃ y, u / 18446744073709551616 = y := ⟨_, rfl⟩
  rw [hy] at q1 x2
  have q2 : u / 2 ^ s = nth R i / 2 ^ s + 2 ^ t * y := by
    rw [← q1, eW, Int.mul_assoc, Int.add_comm, Int.add_mul_ediv_left _ _ (Int.ne_of_gt p1)]
  have q3 : y % 2 ^ s = nth R (i + 1) % 2 ^ s := by
    rw [← x2, eW, Int.emod_emod_of_dvd _ (Int.dvd_mul_right _ _)]
  have q4 : 2 ^ t * y % 18446744073709551616 = 2 ^ t * (nth R (i + 1) % 2 ^ s) := by rw [eW, Int.mul_comm (2 ^ s), Int.mul_emod_mul_of_pos _ _ p2, q3]
  rw [q2, Int.add_emod, q4, Int.emod_eq_of_lt d0 (by omega)]
  generalize 2 ^ t * (nth R (i + 1) % 2 ^ s) = X at *
  rw [Int.emod_eq_of_lt (by omega) (by omega)]

set_option maxRecDepth 100000 in
set_option maxHeartbeats 2000000 in
theorem mod_c (A : Option Addr) (n c : Nat) (a : List Int) (A' : Option Addr) (n' c' : Nat) (m : List Int) (B : Nat) (w : World) (hr : Rd w B A n .u64 a) (hwa : Words a) (hr' : Rd w B A' n' .u64 m) (hwm : Words m) (hB : B ≤ w.heap.size) (hn : n ≤ 10000) (hn' : n' ≤ 10000) (hcap : n' ≤ c') (hm : num m ≠ 0) :
    Calls Tryd.prog 84 #[.slice A n c, .slice A' n' c'] w fun e w' => ∃ A'' c'', e = .returned (.tuple #[.slice A'' n' c'', .int .i64 0]) ∧ Frs w' w.heap.size A'' n' .u64 (wd n' (num a % num m)) ∧ Below w.heap.size w w' := by
  have LA : Keep _ := ⟨hr.len⟩
  have WA : Keep _ := ⟨hwa⟩
  obtain ⟨M, hM⟩ : ∃ M, num m = M := ⟨_, rfl⟩
  have TR : Keep _ := ⟨trimmed_c A' n' c' m B w hr' hn' hcap⟩
  have TOP : Keep (∀ k j s : Nat, k ≤ n' → j + 1 = k → num (m.take k) = M → 9223372036854775808 ≤ nth m j * 2 ^ s → nth m j * 2 ^ s < 18446744073709551616 → s ≤ 63 →
      num ((wd (k + 1) (M * 2 ^ s)).take k) = M * 2 ^ s ∧ 9223372036854775808 ≤ nth ((wd (k + 1) (M * 2 ^ s)).take k) j ∧ num ((wd (n + 1) (num a * 2 ^ s)).drop (n + 1 - k)) < M * 2 ^ s) := ⟨fun k j s hk hj hn h1 h2 hs => by
    have hl : (m.take k).length = k := by rw [List.length_take, hr'.len]; omega
    have h := shifted_div (words_take hwm k) hl hj (by rw [nth_take (by omega)]; exact h1) (by rw [nth_take (by omega)]; exact h2) hs
    rw [hn] at h
    exact ⟨h.1, h.2.1, shifted_high hwa hr.len hj h.2.2 hs⟩⟩
  have KP : Keep (∀ k, num (m.take k) = M → 0 < k) := ⟨fun k h => by
    rcases Nat.eq_zero_or_pos k with h0 | h0
    · subst h0
      rw [List.take_zero, num_nil] at h
      omega
    · exact h0⟩
  have WT : Keep (∀ k, Words (m.take k)) := ⟨fun k => words_take hwm k⟩
  have WM : Keep _ := ⟨hwm⟩
  have RT : Keep (∀ k, k ≤ n' → Rd w B A' k .u64 (m.take k)) := ⟨fun k hk => hr'.take_ hk⟩
  rw [hM]
  rw [hM] at TR
  obtain ⟨V, hV⟩ : ∃ V, num a % M = V := ⟨_, rfl⟩
  have HVV : Keep _ := ⟨hV⟩
  rw [hV]
  clear hwa hwm hm hM hV
  go_enter Tryd.func84, Tryd.ntmps84
  have LB : Keep (B ≤ w.heap.size ∧ n ≤ 10000 ∧ n' ≤ 10000) := ⟨hB, hn, hn'⟩
  have hmk : ∀ w, (Instr.makeSlice 51 (.int .i64 n') (.int .i64 n')).run Tryd.prog w = .ok (.slice (some ⟨w.heap.size, 0, none⟩) n' n') (w.alloc (.cells (vals .u64 (List.replicate n' 0)) 22)) := fun w => run_make_vals w _ _ .u64 Tryd.underlying51 u64Elem .i64 .i64 n' (by omega) (by omega)
  go_wp2_with (first
    | (go_at_call 93
       refine TR.out.mono ?_
       rintro e w1 ⟨k, rfl, hk, hkn, hkt, rfl⟩
       have hk0 : 0 < k := KP.out k hkn
       have hkb : ((k : Int) == 0) = false := by rw [beq_eq_false_iff_ne]; omega
       have hkz : ¬ (k : Int) = 0 := by omega
       have hkz' : ¬ k = 0 := by omega
       obtain ⟨j, hj⟩ : ∃ j, j + 1 = k := ⟨k - 1, by omega⟩
       have hkj : (k : Int) - 1 = (j : Int) := by omega
       obtain ⟨b2, o2, rfl, hlb2, hcs2⟩ := hr'.at_ (by omega)
       obtain ⟨top, htop⟩ : ∃ z, nth m j = z := ⟨_, rfl⟩
       have ht0 : 0 < top ∧ top ≤ 18446744073709551615 := by
         have h1 := hkt hk0
         rw [show k - 1 = j by omega, htop] at h1
         have := WM.out j
         rw [htop] at this
         omega
       obtain ⟨s, hs, hs63, hy1, hy2⟩ := blen_spec ht0.1 ht0.2
       have ca : w.cell? ⟨b2, o2 + j, none⟩ = some (.int .u64 top) := by rw [hcs2 j (by omega), htop]
       have LZ : Keep _ := ⟨lz64_c top (by omega) ht0.2 s hs⟩
       have TP := TOP.out k j s hk hj hkn (by rw [htop]; exact hy1) (by rw [htop]; exact hy2) hs63
       have TP' : Keep _ := ⟨TP⟩
       have HKN : Keep (k ≤ n' ∧ num (m.take k) = M ∧ j + 1 = k ∧ s ≤ 63) := ⟨hk, hkn, hj, hs63⟩
       have hkc : k ≤ k + 1 := by omega
       clear TR TOP KP hkt hkn htop ht0 hy1 hy2 hs hcs2 TP hk0)
    | (go_at_call 94
       refine (LZ.out _).mono ?_
       rintro e w' ⟨rfl, rfl⟩
       have f0 := True.intro)
    | (have q1 := f1
       go_at_call 95
       refine (shiftedUp_c (some ⟨b2, o2, none⟩) k c' (m.take k) s B w1 ((RT.out k HKN.out.1).keep hb1 LB.out.1) (WT.out k) HKN.out.2.2.2 (by have := LB.out; have := hb1.size; omega) (by have := HKN.out; have := LB.out; omega)).mono ?_
       rintro e w2 ⟨rfl, hD2, hb2⟩
       rw [HKN.out.2.1] at hD2
       have hR2 := hR1.keep hb2
       have hbb2 := hb1.trans (hb2.mono hb1.size)
       have hl1 := hR1.lt
       clear q1 f1 hR1 hb1 hb2)
    | (go_at_call 95
       refine (shiftedUp_c A n c a s B w hr WA.out HKN.out.2.2.2 LB.out.1 LB.out.2.1).mono ?_
       rintro e w1 ⟨rfl, hR1, hb1⟩
       have f1 := True.intro)
    | (go_at_call 96
       refine (reduce_c w.heap.size w1.heap.size (n + 1) k j (k + 1) (wd (n + 1) (num a * 2 ^ s)) (wd (k + 1) (M * 2 ^ s)) _ (M * 2 ^ s) w2 hR2 (wd_words _ _) (wd_len _ _) hD2 (by omega) (wd_len _ _) rfl (words_take (wd_words _ _) _) TP'.out.1 HKN.out.2.2.1 TP'.out.2.1 TP'.out.2.2 (by have := LB.out; omega) (by have := LB.out; have := HKN.out; omega)).mono ?_
       rintro e w3 ⟨rfl, ⟨R', hR3, hwR, hlR, hnR⟩, hon⟩
       have hb3 := hbb2.trans (hon.below (Nat.le_refl _) hbb2.size)
       have HR : Keep (Words R' ∧ R'.length = n + 1 ∧ num R' = num (wd (n + 1) (num a * 2 ^ s)) % (M * 2 ^ s)) := ⟨hwR, hlR, hnR⟩
       clear hR2 hD2 hbb2 hwR hlR hnR hon))
  have hv : num R' = V * 2 ^ s := by
    have p1 : (0 : Int) < 2 ^ s := Int.pow_pos (by omega)
    have b := num_bounds WA.out
    rw [LA.out] at b
    have v0 : 0 ≤ num a * 2 ^ s := Int.mul_nonneg b.1 (Int.le_of_lt p1)
    have v1 : num a * 2 ^ s < wp n * 2 ^ s := Int.mul_lt_mul_of_pos_right b.2 p1
    have h64 : (2 : Int) ^ s ≤ 2 ^ 64 := tp_le (by omega)
    have v2 : wp n * 2 ^ s ≤ wp (n + 1) := by rw [wp_succ]; exact Int.mul_le_mul_of_nonneg_left h64 (Int.le_of_lt (wp_pos n))
    rw [HR.out.2.2, num_wd_of v0 (by omega), Int.mul_comm (num a), Int.mul_comm M, Int.mul_emod_mul_of_pos _ _ p1, HVV.out, Int.mul_comm]
  have HV : Keep _ := ⟨hv⟩
  obtain ⟨t, ht⟩ : ∃ t, s + t = 64 := ⟨64 - s, by omega⟩
  have hti : (64 : Int) - (s : Int) = (t : Int) := by omega
  have HT : Keep _ := ⟨ht⟩
  have hR4 := hR3.alloc (.cells (vals .u64 (List.replicate n' 0)) 22)
  have hD4 : Has (w3.alloc (.cells (vals .u64 (List.replicate n' 0)) 22)) w3.heap.size 22 (vals .u64 (padTo n' (wd 0 V))) := by
    rw [show wd 0 V = [] from rfl, padTo_nil]
    exact Has.new _ _ _
  have hb4 : Below w.heap.size w (w3.alloc (.cells (vals .u64 (List.replicate n' 0)) 22)) := hb3.alloc hb3.size _
  have hl3 := hR3.lt
  clear hv hR3 hb3 LZ ca hmk RT hlb2 hkb hkz hkz' hkj hk TP' HKN hkc f0 hl1 ht hj
  go_loopw [39] (fun vi wr => ∃ k : Nat, k ≤ n' ∧ vi = .int .i64 k ∧ Has wr w.heap.size 22 (vals .u64 R') ∧ Has wr w3.heap.size 22 (vals .u64 (padTo n' (wd k V))) ∧ Below w.heap.size w wr) (fun vi _ => n' - (intOf vi).toNat)
  case atStart => exact ⟨0, Nat.zero_le _, rfl, hR4, hD4, hb4⟩
  case round =>
    clear hR4 hD4 hb4
    obtain ⟨i, hi, rfl, hRr, hDd, hb⟩ := hrel
    by_cases hlt : i < n'
    · obtain ⟨x, hx⟩ : ∃ x, nth R' i = x := ⟨_, rfl⟩
      obtain ⟨y, hy⟩ : ∃ y, nth R' (i + 1) = y := ⟨_, rfl⟩
      have bx : 0 ≤ x ∧ x ≤ 18446744073709551615 := hx ▸ HR.out.1 i
      have by' : 0 ≤ y ∧ y ≤ 18446744073709551615 := hy ▸ HR.out.1 (i + 1)
      have sw := shr_word HR.out.1 (i := i) HT.out HV.out
      rw [hx, hy] at sw
      obtain ⟨X, hX⟩ : ∃ X, y * 2 ^ t % 18446744073709551616 = X := ⟨_, rfl⟩
      have hX0 : 0 ≤ X ∧ X < 18446744073709551616 := by rw [← hX]; omega
      have hwX : IntKind.u64.wrap (y * 2 ^ t) = X := by rw [IntKind.wrap_u64, hX]
      rw [hX] at sw
      obtain ⟨z, hz⟩ : ∃ z, x / 2 ^ s = z := ⟨_, rfl⟩
      rw [hz] at sw
      have hor := or_up t sw.1 sw.2.1 sw.2.2.1 hX0.1 sw.2.2.2.1 hX0.2
      have HW : Keep (wd i V ++ [z + X] = wd (i + 1) V) := ⟨by rw [wd_succ, sw.2.2.2.2]⟩
      have RR : Keep (∀ w', Has w' w.heap.size 22 (vals .u64 R') → Rd w' (w.heap.size + 1) (some ⟨w.heap.size, 0, none⟩) (n + 1) .u64 R') := ⟨fun w' h => Rd.of_has h (by omega) (by rw [List.drop_zero, take_all HR.out.2.1]) (by have := HR.out.2.1; omega)⟩
      have C1 : Keep (∀ w', Below wr.heap.size wr w' → Calls Tryd.prog 81 #[.slice (some ⟨w.heap.size, 0, none⟩) (n + 1) (n + 1), .int .i64 (i : Int)] w' fun e w'' => e = .returned (.int .u64 x) ∧ Below w'.heap.size w' w'') := ⟨fun w' hb' => by
        refine (wordAt_c _ (n + 1) (n + 1) R' _ i w' (RR.out w' (hRr.keep hb'))).mono ?_
        rintro e w'' ⟨rfl, rfl⟩
        exact ⟨by rw [hx], Below.refl _ _⟩⟩
      have C2 : Keep (∀ w', Below wr.heap.size wr w' → Calls Tryd.prog 81 #[.slice (some ⟨w.heap.size, 0, none⟩) (n + 1) (n + 1), .int .i64 ((i : Int) + 1)] w' fun e w'' => e = .returned (.int .u64 y) ∧ Below w'.heap.size w' w'') := ⟨fun w' hb' => by
        refine (wordAt_c _ (n + 1) (n + 1) R' _ (i + 1) w' (RR.out w' (hRr.keep hb'))).mono ?_
        rintro e w'' ⟨rfl, rfl⟩
        exact ⟨by rw [hy], Below.refl _ _⟩⟩
      clear sw hx hy hX hX0 bx by'
      go_wp2
      refine wp_fam 16 (by kernel_rfl) (by kernel_rfl) (fun I hI' fw hf hback => ?_)
      simp only [List.take_succ_cons, List.take_zero, List.drop_succ_cons, List.drop_zero]
      repeat (go_big_quiet_step (first | (go_at_call 81; with_reducible exact calls_fam hf hback (C1.out _ (hf _))) | (go_at_call 81; with_reducible exact calls_fam hf hback (C2.out _ (hf _)))))
      refine wpQuiet_nil ?_
      intro w6 hb6
      have hR6 := hRr.keep hb6
      have hD6 := hDd.keep hb6
      have hbb6 := hb.trans (hb6.mono hb.size)
      have e0 := hD6.val (i := i) (by rw [padTo_len (by rw [wd_len]; omega)]; exact hlt)
      have z0 := hD6.frozen i
      have h7 := hD6.set_ i (.int .u64 (z + X))
      rw [vals_set, padTo_set' (wd_len _ _) hlt, HW.out] at h7
      have hR7 := hR6.far (p := ⟨w3.heap.size, i, none⟩) (by show w.heap.size ≠ w3.heap.size; omega) (.int .u64 (z + X))
      have hb7 := hbb6.setCell (p := ⟨w3.heap.size, i, none⟩) (by show w.heap.size ≤ w3.heap.size; omega) (.int .u64 (z + X))
      clear hf hback hRr hDd hb hb6 hR6 hD6 hbb6 C1 C2
      go_wp2
      first
        | exact ⟨⟨i + 1, by omega, by go_num, hR7, h7, hb7⟩, by simp [intOf]; omega⟩
        | (go_roundw
           case rel => exact ⟨i + 1, by omega, by go_num, hR7, h7, hb7⟩
           case measure => simp [intOf]; omega)
    · obtain rfl : i = n' := by omega
      rw [padTo_full (wd_len _ _)] at hDd
      go_wp2
      go_ret2
      refine ⟨some ⟨w3.heap.size, 0, none⟩, i, rfl, ?_, hb⟩
      have := Own.of_has (base := w.heap.size) hDd (by omega) (by rw [wd_len]; unfold maxLen; have := LB.out; omega)
      rw [wd_len] at this
      exact Frs.of_own this
end Go.Proofs.YtoogmgckbalboaaDoor.Limb

/-
  Own text. The contract of Pow of package fp, whatever the exponent.
-/
namespace Go.Proofs.YtoogmgckbalboaaDoor.Fp
set_option linter.unusedVariables false
set_option linter.unusedSimpArgs false
open Go Go.RowKit Go.Proofs.YtoogmgckbalboaaDoor.Reg Go.Proofs.YtoogmgckbalboaaDoor.Base Go.Proofs.YtoogmgckbalboaaDoor.Limb Go.Proofs.YtoogmgckbalboaaDoor.Bits

theorem fermat_red {x M E : Int} (hM : 0 < M) (h1 : pw x M % PP = 1) (hE : 0 ≤ E) : fe (pw x (E % M)) = fe (pw x E) := by
  have hq : 0 ≤ E / M := Int.ediv_nonneg hE (Int.le_of_lt hM)
  have hr : 0 ≤ E % M := Int.emod_nonneg _ (by omega)
  have e0 : E = M * (E / M) + E % M := (Int.mul_ediv_add_emod E M).symm
  have e1 : pw x (M * (E / M)) = (pw x M) ^ (E / M).toNat := by
    rw [pw, pw, ← Int.pow_mul, Int.toNat_mul (Int.le_of_lt hM) hq]
  have e2 : pw x (M * (E / M)) % PP = 1 := by
    rw [e1, pw_congr (y := 1) (by rw [h1]; decide) _, Int.one_pow]
    decide
  have e3 : pw x E = pw x (M * (E / M)) * pw x (E % M) := by
    rw [← pw_add (Int.mul_nonneg (Int.le_of_lt hM) hq) hr, ← e0]
  refine fe_congr ?_
  rw [e3, Int.mul_emod, e2, Int.one_mul, Int.emod_emod]
theorem num_less_one : num (fe (-1)) = PP - 1 := by decide +kernel
theorem num_oneL : num [1, 0, 0, 0, 0, 0] = 1 := by decide +kernel
set_option maxRecDepth 100000 in
set_option maxHeartbeats 2000000 in
theorem pow_long_w (a : List Int) (hla : a.length = 6) (hwa : Words a) (A : Option Addr) (n c : Nat) (l : List Int) (B : Nat) (w : World) (hG : Glob w) (hr : Rd w B A n .u64 l) (hw : Words l) (hB : B ≤ w.heap.size) (hn : n ≤ 10000) (hz : num l ≠ 0) (hx0 : fe (num a) ≠ Z6) (hn6 : 6 < n) : Calls Tryd.prog 77 #[.agg (vals .u64 a), .slice A n c] w fun e w' => e = .returned (.agg (vals .u64 (fe (pw (num a) (num l))))) ∧ Below w.heap.size w w' := by
  have LN : Keep _ := ⟨hr.len⟩
  have LW : Keep _ := ⟨hw⟩
  obtain ⟨o, ho⟩ : ∃ o, fe (pw (num a) (num l)) = o := ⟨_, rfl⟩
  have OL : Keep (o.length = 6) := ⟨by rw [← ho]; exact fe_len _⟩
  have LA : Keep _ := ⟨hla⟩
  have WA : Keep _ := ⟨hwa⟩
  obtain ⟨S, hS⟩ : ∃ S, w.heap.size = S := ⟨_, rfl⟩
  have hA0 : Has ((w.alloc (.cells (vals .u64 a) 24)).alloc (.cells (vals .u64 Z6) 24)) S 24 (vals .u64 a) := by exact (Has.new' _ hS.symm _ _).alloc _
  have hR0 : Has ((w.alloc (.cells (vals .u64 a) 24)).alloc (.cells (vals .u64 Z6) 24)) (S + 1) 24 (vals .u64 Z6) := by exact Has.new' _ (by rw [World.size_alloc, hS]) _ _
  have hb0 : Below S w ((w.alloc (.cells (vals .u64 a) 24)).alloc (.cells (vals .u64 Z6) 24)) := by rw [← hS]; exact ((Below.refl _ _).alloc (Nat.le_refl _) _).alloc (by simp) _
  have HS0 : Keep (S ≤ w.heap.size) := ⟨by omega⟩
  have FR : Keep (Free S) := ⟨hG.free (by omega)⟩
  have HSS : Keep (∀ w', Below S w w' → S ≤ w'.heap.size) := ⟨fun w' hb => Nat.le_trans HS0.out hb.size⟩
  have HGG : Keep (∀ w', Below S w w' → Glob w') := ⟨fun w' hb => hG.keep (by rw [hS]; exact hb)⟩
  have HRD : Keep (∀ w', Below S w w' → Rd w' B A n .u64 l) := ⟨fun w' hb => hr.keep hb (by omega)⟩
  have HBS : Keep (B ≤ S) := ⟨by omega⟩
  have hgd := gd6
  have HO : Keep _ := ⟨ho⟩
  rw [ho, hS]
  obtain ⟨x, hx⟩ : ∃ x, fe (num a) = x := ⟨_, rfl⟩
  have LX : Keep (x.length = 6 ∧ Words x) := ⟨by rw [← hx]; exact fe_len _, by rw [← hx]; exact fe_words _⟩
  have HX : Keep _ := ⟨hx⟩
  clear hla hwa hG hw hr hx ho hB
  have HC : Keep (cmpL l [] = 1) := ⟨by
    have := (num_bounds LW.out).1
    rw [cmpL, num_nil, if_neg (by omega), if_neg hz]⟩
  have E1 := eq6_ne x Z6 LX.out.1 rfl (by rw [← HX.out]; exact hx0)
  obtain ⟨m, hm⟩ : ∃ m, fe (-1) = m := ⟨_, rfl⟩
  have LM : Keep (m.length = 6 ∧ Words m ∧ num m = PP - 1) := ⟨by rw [← hm]; exact fe_len _, by rw [← hm]; exact fe_words _, by rw [← hm]; exact num_less_one⟩
  have HM : Keep _ := ⟨hm⟩
  have NG : Keep (∀ w', Below S w w' → Calls Tryd.prog 23 #[.agg (vals .u64 [1, 0, 0, 0, 0, 0])] w' fun e w'' => e = .returned (.agg (vals .u64 m)) ∧ Below w'.heap.size w' w'') := ⟨fun w' hb' => by
    have := fpNeg_c [1, 0, 0, 0, 0, 0] rfl (words_of _ (by decide)) w' (HGG.out _ hb')
    rwa [num_oneL, HM.out] at this⟩
  obtain ⟨L, hL⟩ : ∃ L, wd 6 (num l % num m) = L := ⟨_, rfl⟩
  have hx1 : num a % PP ≠ 0 := fun h => hx0 (by rw [(fe_zero_iff _).2 h, fe_zero])
  have SP : Keep (∀ A' c' w', Below S w w' → Rd w' w'.heap.size A' 6 .u64 L → Calls Tryd.prog 85 #[.agg (vals .u64 x), .slice A' 6 c'] w' fun e w'' => e = .returned (.agg (vals .u64 o)) ∧ Below w'.heap.size w' w'') := ⟨fun A' c' w' hb' hrd => by
    have h1 : (0 : Int) < PP - 1 := by decide
    have h2 : num L = num l % (PP - 1) := by
      rw [← hL, LM.out.2.2, num_wd]
      have h3 := Int.emod_nonneg (num l) (show (PP - 1) ≠ 0 by decide)
      have h4 := Int.emod_lt_of_pos (num l) h1
      have h5 := PP_lt
      exact Int.emod_eq_of_lt h3 (by omega)
    have := shortPow_c x LX.out.1 LX.out.2 A' 6 c' L w'.heap.size w' (HGG.out _ hb') hrd (by rw [← hL]; exact wd_words _ _) (Nat.le_refl _) (by omega)
    rwa [h2, ← HX.out, fe_pw, fermat_red h1 (pw_fermat hx1) (num_bounds LW.out).1, HO.out, HX.out] at this⟩
  have HL : Keep _ := ⟨hL⟩
  clear hz hx0 hm hL hx1
  have CM : Keep (∀ w', Below S w w' → Calls Tryd.prog 70 #[.slice A n c, .slice none 0 0] w' fun e w'' => e = .returned (.int .i64 1) ∧ Below w'.heap.size w' w'') := ⟨fun w' hb' => by
    have := cmp_c A n c l none 0 0 [] B w' (HRD.out _ hb') LW.out ⟨rfl, fun h => absurd h (by omega)⟩ (words_of _ (by intro i hi; simp at hi)) (Nat.le_trans HBS.out (HSS.out _ hb')) hn (by omega)
    rwa [HC.out] at this⟩
  go_enter Tryd.func77, Tryd.ntmps77
  go_wp2_with (first
    | (refine wpList_buildTo (by rfl) 24 #[(0, .const (.int .u64 1))] (by rfl) (some 18) (by rfl) (vals .u64 [1, 0, 0, 0, 0, 0]) (by kernel_rfl) ?_)
    | (have q1 := g5
       refine wpList_load_row rfl 24 (.tmp 2) rfl S rfl _ _ _ _ hA5.eq Tryd.underlying24 rfl (by rw [vals_size, LX.out.1]; kernel_rfl) ?_)
    | (refine wpList_load_row rfl 24 (.tmp 2) rfl S rfl _ _ _ _ hA2.eq Tryd.underlying24 rfl (by first | (rw [vals_size, LX.out.1]; kernel_rfl) | kernel_rfl) ?_)
    | (refine wpList_buildTo (by rfl) 24 #[] (by rfl) (some 12) (by rfl) (vals .u64 Z6) (by kernel_rfl) ?_)
    | (refine wpList_store_rowTo rfl 24 (.tmp 4) (.tmp 28) rfl rfl (S + 1) (vals .u64 o) rfl rfl _ _ hR6.eq (by first | (rw [vals_size, OL.out]; kernel_rfl) | kernel_rfl) (by first | (rw [vals_size, vals_size, OL.out]; rfl) | rfl) vals_one ?_)
    | (have q1 := g5
       go_at_call 85
       refine (SP.out _ _ _ hb5 hF5).mono ?_
       rintro e w6 ⟨rfl, hq⟩
       have hR6 := hR5.keep hq
       have hb6 := hb5.trans (hq.mono (HSS.out _ hb5))
       clear hq hA5 hR5 hb5)
    | (have q1 := g4
       go_at_call 84
       refine (mod_c A n c l (some ⟨w3.heap.size, 0, none⟩) 6 6 m w4.heap.size w4 ((HRD.out _ hb4).more (Nat.le_trans HBS.out (HSS.out _ hb4))) LW.out (Rd.of_has hM4 hM4.lt (by rw [List.drop_zero, take_all LM.out.1]) (by rw [LM.out.1]; omega)) LM.out.2.1 (Nat.le_refl _) hn (by omega) (Nat.le_refl _) (by rw [LM.out.2.2]; decide)).mono ?_
       rintro e w5 ⟨A', c', rfl, hfrs, hq⟩
       rw [HL.out] at hfrs
       have g5 := True.intro
       have hF5 := hfrs.rd
       have hA5 := hA4.keep hq
       have hR5 := hR4.keep hq
       have hb5 := hb4.trans (hq.mono (HSS.out _ hb4))
       clear hq hA4 hR4 hb4 hM4 hfrs g4)
    | (have q1 := g3
       refine store_abs2 (by rfl) 24 (.tmp 5) (.tmp 19) (by rfl) (by rfl) w3.heap.size (vals .u64 m) (by rfl) (by rfl) 24 (vals .u64 Z6) (Has.new' _ rfl _ _) (by rw [vals_size, LM.out.1]; kernel_rfl) (by rw [vals_size, vals_size, LM.out.1]; rfl) vals_one ?_
       intro w4 hM4 hkeep hbg
       have g4 := True.intro
       have hbe := ((Below.refl w3.heap.size w3).alloc (Nat.le_refl _) (.cells (vals .u64 Z6) 24)).trans hbg
       have hA4 := hA3.keep hbe
       have hR4 := hR3.keep hbe
       have hb4 := hb3.trans (hbe.mono (HSS.out _ hb3))
       clear hkeep hbg hbe hA3 hR3 hb3 g3)
    | (go_at_call 23
       refine (NG.out _ hb2).mono ?_
       rintro e w3 ⟨rfl, hq⟩
       have g3 := True.intro
       have hA3 := hA2.keep hq
       have hR3 := hR2.keep hq
       have hb3 := hb2.trans (hq.mono (HSS.out _ hb2))
       clear hq hA2 hR2 hb2)
    | (go_at_call 70
       refine (CM.out _ hb1).mono ?_
       rintro e w2 ⟨rfl, hq⟩
       have hA2 := hA1.keep hq
       have hR2 := hR1.keep hq
       have hb2 := hb1.trans (hq.mono (HSS.out _ hb1))
       clear hq hA1 hR1 hb1)
    | (go_at_call 47
       refine (fpLower_c S 24 a LA.out WA.out FR.out _ (HGG.out _ hb0) hA0).mono ?_
       rintro e w1 ⟨rfl, hA1, ho⟩
       rw [HX.out] at hA1
       have hR1 := ho.has hR0 (by omega)
       have hb1 := hb0.trans (ho.below (B := S) (by omega) (HSS.out _ hb0))
       clear ho hA0 hR0 hb0))
  refine bodyPost_ret (v := .agg (vals .u64 o)) (results_cell_row rfl _ _ (S + 1) _ _ _ _ rfl (hR6.row _).eq Tryd.underlying24 rfl (by first | (rw [vals_size, OL.out]; kernel_rfl) | kernel_rfl)) rfl ⟨by first | rfl | rw [FIN.out], below_row hb6 (by omega) _⟩
theorem fpPow_c (a : List Int) (hla : a.length = 6) (hwa : Words a) (A : Option Addr) (n c : Nat) (l : List Int) (B : Nat) (w : World) (hG : Glob w) (hr : Rd w B A n .u64 l) (hw : Words l) (hB : B ≤ w.heap.size) (hn : n ≤ 10000) : Calls Tryd.prog 77 #[.agg (vals .u64 a), .slice A n c] w fun e w' => e = .returned (.agg (vals .u64 (fe (pw (num a) (num l))))) ∧ Below w.heap.size w w' := by
  by_cases hz : num l = 0
  · exact pow_zero_w a hla hwa A n c l B w hG hr hw hB hn hz
  · by_cases hx : fe (num a) = Z6
    · exact pow_nought_w a hla hwa A n c l B w hG hr hw hB hn hz hx
    · by_cases h6 : n ≤ 6
      · exact pow_short_w a hla hwa A n c l B w hG hr hw hB hn hz hx h6
      · exact pow_long_w a hla hwa A n c l B w hG hr hw hB hn hz hx (by omega)
end Go.Proofs.YtoogmgckbalboaaDoor.Fp

/-
  Own text. The contracts of layer 5's landed package: someRoot, Is, Sign.
-/
namespace Go.Proofs.YtoogmgckbalboaaDoor.Fpr
set_option linter.unusedVariables false
set_option linter.unusedSimpArgs false
open Go Go.RowKit Go.Proofs.YtoogmgckbalboaaDoor.Reg Go.Proofs.YtoogmgckbalboaaDoor.Base Go.Proofs.YtoogmgckbalboaaDoor.Limb Go.Proofs.YtoogmgckbalboaaDoor.Bits Go.Proofs.YtoogmgckbalboaaDoor.Fp

set_option maxRecDepth 100000 in
set_option maxHeartbeats 2000000 in
theorem someRoot_c (a : List Int) (hla : a.length = 6) (hwa : Words a) (w : World) (hG : Glob w) : Calls Tryd.prog 53 #[.agg (vals .u64 a)] w fun e w' => e = .returned (.tuple #[.agg (vals .u64 (fe (pw (num a) QQ))), .bool (sq (num a))]) ∧ Below w.heap.size w w' := by
  obtain ⟨r, hr⟩ : ∃ o, fe (pw (num a) QQ) = o := ⟨_, rfl⟩
  have Lr : Keep (r.length = 6) := ⟨by rw [← hr]; exact fe_len _⟩
  have wr : Words r := by rw [← hr]; exact fe_words _
  have EQ := eqsq (num a)
  rw [hr] at EQ
  obtain ⟨m, hm⟩ : ∃ o, fe (num r * num r) = o := ⟨_, rfl⟩
  obtain ⟨x, hx⟩ : ∃ o, fe (num a) = o := ⟨_, rfl⟩
  obtain ⟨s, hs⟩ : ∃ s, sq (num a) = s := ⟨_, rfl⟩
  rw [hm, hx, hs] at EQ
  have P1 : Keep (∀ (x : World) (g : Nat), Has x g 23 (vals .u64 qL) → Glob x → Calls Tryd.prog 77 #[.agg (vals .u64 a), .slice (some ⟨g, 0, none⟩) 6 6] x fun e x' => e = .returned (.agg (vals .u64 r)) ∧ Below x.heap.size x x') := ⟨fun x g h hG => by
    have h1 := fpPow_c a hla hwa (some ⟨g, 0, none⟩) 6 6 qL x.heap.size x hG (Rd.of_has h h.lt (by rfl) (by decide)) qL_words (Nat.le_refl _) (by omega)
    rw [qL_num, hr] at h1
    exact h1⟩
  have P2 : Keep (∀ x : World, Glob x → _) := ⟨fun x (hG : Glob x) => fpMul_c r Lr.out wr r Lr.out wr x hG⟩
  rw [hm] at P2
  have P3 : Keep (∀ x : World, Glob x → _) := ⟨fun x (hG : Glob x) => fpReduce_c a hla hwa x hG⟩
  rw [hx] at P3
  rw [hr, hs]
  have La : Keep (a.length = 6) := ⟨hla⟩
  have Lo : Keep (Z6.length = 6) := ⟨rfl⟩
  have Lq : Keep (qL.length = 6) := ⟨rfl⟩
  have hgd := gd6
  obtain ⟨S, hS⟩ : ∃ S, w.heap.size = S := ⟨_, rfl⟩
  have qa0 : Has ((w.alloc (.cells (vals .u64 a) 24)).alloc (.cells (vals .u64 Z6) 24)) (S) 24 (vals .u64 a) := by exact ((Has.new' _ hS.symm _ _).alloc _)
  have qo0 : Has ((w.alloc (.cells (vals .u64 a) 24)).alloc (.cells (vals .u64 Z6) 24)) (S + 1) 24 (vals .u64 Z6) := by exact (Has.new' _ (by simp only [World.size_alloc, hS]) _ _)
  have hb0 : Below S w ((w.alloc (.cells (vals .u64 a) 24)).alloc (.cells (vals .u64 Z6) 24)) := by rw [← hS]; exact (((Below.refl _ _).alloc (Nat.le_refl _) _).alloc (by simp) _)
  have hsz0 : ((w.alloc (.cells (vals .u64 a) 24)).alloc (.cells (vals .u64 Z6) 24)).heap.size = S + 2 := by simp only [World.size_alloc, hS]
  have HS0 : Keep (S ≤ w.heap.size) := ⟨by omega⟩
  have HSS : Keep (∀ x : World, Below S w x → S ≤ x.heap.size) := ⟨fun x hb => Nat.le_trans HS0.out hb.size⟩
  have HG : Keep (∀ x : World, Below S w x → Glob x) := ⟨fun x hb => hG.keep (by rw [hS]; exact hb)⟩
  rw [hS]
  clear hr hm hx hs hla hwa wr hG
  go_enter Tryd.func53, Tryd.ntmps53
  go_wp2_with (first
    | (refine store_abs2 (by rfl) 23 (.tmp 4) (.tmp 6) (by rfl) (by rfl) (S + 2) (vals .u64 qL) (by rfl) (by rfl) 23 (vals .u64 Z6) (Has.new' _ (by simp only [World.size_alloc, hS]) _ _) (by rw [vals_size, Lq.out]; kernel_rfl) (by first | rfl | (rw [vals_size, vals_size, Lq.out]; rfl)) vals_one ?_
       intro w1 qk1 hkeep hbg
       have hbe := ((Below.refl (((w.alloc (.cells (vals .u64 a) 24)).alloc (.cells (vals .u64 Z6) 24))).heap.size (((w.alloc (.cells (vals .u64 a) 24)).alloc (.cells (vals .u64 Z6) 24)))).alloc (Nat.le_refl _) (.cells (vals .u64 Z6) 23)).trans (by rw [hsz0]; exact hbg)
       have Nak : Keep (S < S + 2) := ⟨by rw [← hsz0]; exact qa0.lt⟩
       have Nok : Keep (S + 1 < S + 2) := ⟨by rw [← hsz0]; exact qo0.lt⟩
       have Mk : Keep (S ≤ S + 2) := ⟨by omega⟩
       have qa1 := qa0.keep hbe
       have qo1 := qo0.keep hbe
       have hb1 := hb0.trans (hbe.mono (HSS.out _ hb0))
       clear hkeep hbg hbe hb0 qa0 qo0)
    | (refine wpList_buildTo (by rfl) 23 #[(0, .const (.int .u64 17185665809301629611)), (1, .const (.int .u64 552535377879302143)), (2, .const (.int .u64 15693976698673184137)), (3, .const (.int .u64 15644892545385841839)), (4, .const (.int .u64 10576397981472451381)), (5, .const (.int .u64 468449654411884966))] (by rfl) (some 6) (by rfl) (vals .u64 qL) (by kernel_rfl) ?_))
  have HS : Keep (∀ x x' : World, (fun x : World => Below S w x ∧ Has x (S) 24 (vals .u64 a) ∧ Has x (S + 2) 23 (vals .u64 qL)) x → Below x.heap.size x x' → (fun x : World => Below S w x ∧ Has x (S) 24 (vals .u64 a) ∧ Has x (S + 2) 23 (vals .u64 qL)) x') := ⟨fun x x' h hb => by
    obtain ⟨hB, ha_, hk_⟩ := h
    exact ⟨hB.trans (hb.mono (HSS.out _ hB)), ha_.keep hb, hk_.keep hb⟩⟩
  have hdr : (fun x : World => Below S w x ∧ Has x (S) 24 (vals .u64 a) ∧ Has x (S + 2) 23 (vals .u64 qL)) w1.drew := HS.out _ _ ⟨hb1, qa1, qk1⟩ ⟨rfl, rfl, rfl, Nat.le_refl _, fun _ _ => rfl⟩
  have hbd : Below w1.heap.size w1 w1.drew := ⟨rfl, rfl, rfl, Nat.le_refl _, fun _ _ => rfl⟩
  refine wp_regionU (S := (fun x : World => Below S w x ∧ Has x (S) 24 (vals .u64 a) ∧ Has x (S + 2) 23 (vals .u64 qL))) (by kernel_rfl) ?_
  change wpAnyU _ _ _ _ _ 5 _ _ _
  have ra := qa1.keep hbd
  have ro := qo1.keep hbd
  have rk := qk1.keep hbd
  have hbr := hb1.trans (hbd.mono (HSS.out _ hb1))
  clear hbd hb1 qa1 qo1 qk1
  refine wpAnyU_take (i := 0) (v := _) HS.out (by rfl) (by kernel_rfl) (by kernel_rfl) (by kernel_rfl) (fun _ _ d _ _ h => by cases d <;> exact h) hdr (Steady.load_seg (by rfl) 24 (.tmp 1) (by rfl) (S) 0 6 (by rfl) 24 .u64 a a _ (fun w hw => hw.2.1) Tryd.underlying24 rfl (by kernel_rfl) (by rw [List.drop_zero, take_all La.out]) (by rw [La.out]; omega)) ?_
  simp only [List.getElem_toArray, List.getElem_cons_zero, List.getElem_cons_succ, Act.put, List.setIfInBounds_toArray, List.set_cons_zero, List.set_cons_succ]
  refine wpAnyU_take (i := 1) (v := _) HS.out (by rfl) (by kernel_rfl) (by kernel_rfl) (by kernel_rfl) (fun _ _ d _ _ h => by cases d <;> exact h) hdr (Steady.of_yields (Or.inl ⟨by rfl, fun w => (by first | (go_simp; done) | (go_simp; with_reducible rfl))⟩)) ?_
  simp only [List.getElem_toArray, List.getElem_cons_zero, List.getElem_cons_succ, Act.put, List.setIfInBounds_toArray, List.set_cons_zero, List.set_cons_succ]
  refine wpAnyU_take (i := 2) (v := .agg (vals .u64 r)) HS.out (by rfl) (by kernel_rfl) (by kernel_rfl) (by kernel_rfl) (fun _ _ d _ _ h => by cases d <;> exact h) hdr (Or.inl ⟨by rfl, fun w hw => (by unfold Oper.quietAt; go_simp; exact P1.out _ _ (hw.2.2) (HG.out _ (hw.1)))⟩) ?_
  simp only [List.getElem_toArray, List.getElem_cons_zero, List.getElem_cons_succ, Act.put, List.setIfInBounds_toArray, List.set_cons_zero, List.set_cons_succ]
  refine wpAnyU_run (i := 3) (by rfl) (by kernel_rfl) (fun w2 hq => ?_)
  have ok2 := HS.out _ _ hdr hq
  have ra' := ra.keep hq
  have ro' := ro.keep hq
  have rk' := rk.keep hq
  have hbr' := hbr.trans (hq.mono (HSS.out _ hbr))
  clear hbr hq ra ro rk
  have Nar : Keep (S < w2.heap.size) := ⟨ra'.lt⟩
  have Nor : Keep (S + 1 < w2.heap.size) := ⟨ro'.lt⟩
  have Nkr : Keep (S + 2 < w2.heap.size) := ⟨rk'.lt⟩
  have Mr : Keep (S ≤ w2.heap.size) := ⟨HSS.out _ hbr'⟩
  have hal : Below w2.heap.size w2 (w2.alloc (.cells (vals .u64 Z6) 24)) := (Below.refl _ _).alloc (Nat.le_refl _) _
  have ok3 := HS.out _ _ ok2 hal
  have ra := ra'.keep hal
  have ro := ro'.keep hal
  have rk := rk'.keep hal
  have rr : Has (w2.alloc (.cells (vals .u64 Z6) 24)) w2.heap.size 24 (vals .u64 Z6) := Has.new _ _ _
  have hbr := hbr'.trans (hal.mono (HSS.out _ hbr'))
  clear hal hbr' ok2 ra' ro' rk'
  refine wpList_own (by rfl) ?_
  go_wp2
  try refine ⟨ok3, ?_⟩
  obtain ⟨gr, hgr⟩ : ∃ g, w2.heap.size = g := ⟨_, rfl⟩
  obtain ⟨w3, hw3⟩ : ∃ x, w2.alloc (.cells (vals .u64 Z6) 24) = x := ⟨_, rfl⟩
  change wpAnyU _ _ _ _ _ _ _ _ (w2.alloc (.cells (vals .u64 Z6) 24))
  rw [hw3] at ok3 hbr ra ro rk rr ⊢
  rw [hgr] at rr Mr Nar Nor Nkr ⊢
  clear hgr hw3
  refine wpAnyU_run (i := 4) (by rfl) (by kernel_rfl) (fun w4 hq => ?_)
  have ok4 := HS.out _ _ ok3 hq
  have ra' := ra.keep hq
  have ro' := ro.keep hq
  have rk' := rk.keep hq
  have rr' := rr.keep hq
  have hbr' := hbr.trans (hq.mono (HSS.out _ hbr))
  clear hbr hq ra ro rk rr
  refine wpList_own (by rfl) ?_
  go_wp2_with (refine store_abs2 (by rfl) 24 (.tmp 5) (.tmp 9) (by rfl) (by rfl) (gr) (vals .u64 r) (by rfl) (by rfl) 24 _ rr' (by rw [vals_size, Lr.out]; kernel_rfl) (by first | rfl | (rw [vals_size, vals_size, Lr.out]; rfl)) vals_one ?_
               intro w5 rr hkeep hbg
               have ra := hkeep _ _ _ ra' (Nat.ne_of_lt Nar.out)
               have ro := hkeep _ _ _ ro' (Nat.ne_of_lt Nor.out)
               have rk := hkeep _ _ _ rk' (Nat.ne_of_lt Nkr.out)
               have hbr := hbr'.trans (hbg.mono Mr.out)
               clear hkeep hbg hbr' ra' ro' rk' rr')
  try refine ⟨⟨hbr, ra, rk⟩, ?_⟩
  have ok5 : (fun x : World => Below S w x ∧ Has x (S) 24 (vals .u64 a) ∧ Has x (S + 2) 23 (vals .u64 qL)) w5 := ⟨hbr, ra, rk⟩
  clear ok4
  refine wpAnyU_end (by kernel_rfl) (fun w6 hq => ?_)
  have qa6 := ra.keep hq
  have qo6 := ro.keep hq
  have qk6 := rk.keep hq
  have qr6 := rr.keep hq
  have hb6 := hbr.trans (hq.mono (HSS.out _ hbr))
  clear hq hbr ok5 HS  ra ro rk rr
  go_wp2
  have HS : Keep (∀ x x' : World, (fun x : World => Below S w x ∧ Has x (S) 24 (vals .u64 a) ∧ Has x (gr) 24 (vals .u64 r)) x → Below x.heap.size x x' → (fun x : World => Below S w x ∧ Has x (S) 24 (vals .u64 a) ∧ Has x (gr) 24 (vals .u64 r)) x') := ⟨fun x x' h hb => by
    obtain ⟨hB, ha_, hr_⟩ := h
    exact ⟨hB.trans (hb.mono (HSS.out _ hB)), ha_.keep hb, hr_.keep hb⟩⟩
  have hdr : (fun x : World => Below S w x ∧ Has x (S) 24 (vals .u64 a) ∧ Has x (gr) 24 (vals .u64 r)) w6.drew := HS.out _ _ ⟨hb6, qa6, qr6⟩ ⟨rfl, rfl, rfl, Nat.le_refl _, fun _ _ => rfl⟩
  have hbd : Below w6.heap.size w6 w6.drew := ⟨rfl, rfl, rfl, Nat.le_refl _, fun _ _ => rfl⟩
  refine wp_regionU (S := (fun x : World => Below S w x ∧ Has x (S) 24 (vals .u64 a) ∧ Has x (gr) 24 (vals .u64 r))) (by kernel_rfl) ?_
  change wpAnyU _ _ _ _ _ 9 _ _ _
  have ra := qa6.keep hbd
  have ro := qo6.keep hbd
  have rk := qk6.keep hbd
  have rr := qr6.keep hbd
  have hbr := hb6.trans (hbd.mono (HSS.out _ hb6))
  clear hbd hb6 qa6 qo6 qk6 qr6
  refine wpAnyU_take (i := 0) (v := _) HS.out (by rfl) (by kernel_rfl) (by kernel_rfl) (by kernel_rfl) (fun _ _ d _ _ h => by cases d <;> exact h) hdr (Steady.load_seg (by rfl) 24 (.tmp 5) (by rfl) (gr) 0 6 (by rfl) 24 .u64 r r _ (fun w hw => hw.2.2) Tryd.underlying24 rfl (by kernel_rfl) (by rw [List.drop_zero, take_all Lr.out]) (by rw [Lr.out]; omega)) ?_
  simp only [List.getElem_toArray, List.getElem_cons_zero, List.getElem_cons_succ, Act.put, List.setIfInBounds_toArray, List.set_cons_zero, List.set_cons_succ]
  refine wpAnyU_take (i := 1) (v := _) HS.out (by rfl) (by kernel_rfl) (by kernel_rfl) (by kernel_rfl) (fun _ _ d _ _ h => by cases d <;> exact h) hdr (Steady.load_seg (by rfl) 24 (.tmp 5) (by rfl) (gr) 0 6 (by rfl) 24 .u64 r r _ (fun w hw => hw.2.2) Tryd.underlying24 rfl (by kernel_rfl) (by rw [List.drop_zero, take_all Lr.out]) (by rw [Lr.out]; omega)) ?_
  simp only [List.getElem_toArray, List.getElem_cons_zero, List.getElem_cons_succ, Act.put, List.setIfInBounds_toArray, List.set_cons_zero, List.set_cons_succ]
  refine wpAnyU_take (i := 2) (v := _) HS.out (by rfl) (by kernel_rfl) (by kernel_rfl) (by kernel_rfl) (fun _ _ d _ _ h => by cases d <;> exact h) hdr (Steady.load_seg (by rfl) 24 (.tmp 5) (by rfl) (gr) 0 6 (by rfl) 24 .u64 r r _ (fun w hw => hw.2.2) Tryd.underlying24 rfl (by kernel_rfl) (by rw [List.drop_zero, take_all Lr.out]) (by rw [Lr.out]; omega)) ?_
  simp only [List.getElem_toArray, List.getElem_cons_zero, List.getElem_cons_succ, Act.put, List.setIfInBounds_toArray, List.set_cons_zero, List.set_cons_succ]
  refine wpAnyU_take (i := 3) (v := .agg (vals .u64 m)) HS.out (by rfl) (by kernel_rfl) (by kernel_rfl) (by kernel_rfl) (fun _ _ d _ _ h => by cases d <;> exact h) hdr (Or.inl ⟨by rfl, fun w hw => (by unfold Oper.quietAt; go_simp; exact P2.out _ (HG.out _ (hw.1)))⟩) ?_
  simp only [List.getElem_toArray, List.getElem_cons_zero, List.getElem_cons_succ, Act.put, List.setIfInBounds_toArray, List.set_cons_zero, List.set_cons_succ]
  refine wpAnyU_take (i := 4) (v := _) HS.out (by rfl) (by kernel_rfl) (by kernel_rfl) (by kernel_rfl) (fun _ _ d _ _ h => by cases d <;> exact h) hdr (Steady.load_seg (by rfl) 24 (.tmp 1) (by rfl) (S) 0 6 (by rfl) 24 .u64 a a _ (fun w hw => hw.2.1) Tryd.underlying24 rfl (by kernel_rfl) (by rw [List.drop_zero, take_all La.out]) (by rw [La.out]; omega)) ?_
  simp only [List.getElem_toArray, List.getElem_cons_zero, List.getElem_cons_succ, Act.put, List.setIfInBounds_toArray, List.set_cons_zero, List.set_cons_succ]
  refine wpAnyU_take (i := 5) (v := .agg (vals .u64 x)) HS.out (by rfl) (by kernel_rfl) (by kernel_rfl) (by kernel_rfl) (fun _ _ d _ _ h => by cases d <;> exact h) hdr (Or.inl ⟨by rfl, fun w hw => (by unfold Oper.quietAt; go_simp; exact P3.out _ (HG.out _ (hw.1)))⟩) ?_
  simp only [List.getElem_toArray, List.getElem_cons_zero, List.getElem_cons_succ, Act.put, List.setIfInBounds_toArray, List.set_cons_zero, List.set_cons_succ]
  refine wpAnyU_take (i := 6) (v := .bool s) HS.out (by rfl) (by kernel_rfl) (by kernel_rfl) (by kernel_rfl) (fun _ _ d _ _ h => by cases d <;> exact h) hdr (Steady.of_yields (Or.inl ⟨by rfl, fun w => (by go_simp)⟩)) ?_
  simp only [List.getElem_toArray, List.getElem_cons_zero, List.getElem_cons_succ, Act.put, List.setIfInBounds_toArray, List.set_cons_zero, List.set_cons_succ]
  refine wpAnyU_run (i := 7) (by rfl) (by kernel_rfl) (fun w7 hq => ?_)
  have ok7 := HS.out _ _ hdr hq
  have ra' := ra.keep hq
  have ro' := ro.keep hq
  have rk' := rk.keep hq
  have rr' := rr.keep hq
  have hbr' := hbr.trans (hq.mono (HSS.out _ hbr))
  clear hbr hq ra ro rk rr
  refine wpList_own (by rfl) ?_
  go_wp2_with (refine store_abs2 (by rfl) 24 (.tmp 2) (.tmp 10) (by rfl) (by rfl) (S + 1) (vals .u64 r) (by rfl) (by rfl) 24 _ ro' (by rw [vals_size, Lr.out]; kernel_rfl) (by first | rfl | (rw [vals_size, vals_size, Lr.out]; rfl)) vals_one ?_
               intro w8 ro hkeep hbg
               have ra := hkeep _ _ _ ra' (by omega)
               have rk := hkeep _ _ _ rk' (Nat.ne_of_gt Nok.out)
               have rr := hkeep _ _ _ rr' (Nat.ne_of_gt Nor.out)
               have hbr := hbr'.trans (hbg.mono (by omega))
               clear hkeep hbg hbr' ra' ro' rk' rr')
  try refine ⟨⟨hbr, ra, rr⟩, ?_⟩
  have ok8 : (fun x : World => Below S w x ∧ Has x (S) 24 (vals .u64 a) ∧ Has x (gr) 24 (vals .u64 r)) w8 := ⟨hbr, ra, rr⟩
  clear ok7
  refine wpAnyU_take (i := 8) (v := _) HS.out (by rfl) (by kernel_rfl) (by kernel_rfl) (by kernel_rfl) (fun _ _ d _ _ h => by cases d <;> exact h) ok8 (Steady.of_yields (Or.inl ⟨by rfl, fun w => (by first | (go_simp; done) | (go_simp; with_reducible rfl))⟩)) ?_
  simp only [List.getElem_toArray, List.getElem_cons_zero, List.getElem_cons_succ, Act.put, List.setIfInBounds_toArray, List.set_cons_zero, List.set_cons_succ]
  refine wpAnyU_end (by kernel_rfl) (fun w9 hq => ?_)
  have qa9 := ra.keep hq
  have qo9 := ro.keep hq
  have qk9 := rk.keep hq
  have qr9 := rr.keep hq
  have hb9 := hbr.trans (hq.mono (HSS.out _ hbr))
  clear hq hbr ok8 HS  ra ro rk rr
  go_wp2
  refine bodyPost_ret (v := .tuple #[.agg (vals .u64 r), .bool s]) (results_row_tmp rfl _ _ (S + 1) _ _ _ _ _ rfl rfl qo9.eq Tryd.underlying24 rfl (by rw [vals_size, Lr.out]; kernel_rfl)) rfl ⟨rfl, hb9⟩

set_option maxRecDepth 100000 in
set_option maxHeartbeats 2000000 in
theorem is_c (a : List Int) (hla : a.length = 6) (hwa : Words a) (w : World) (hG : Glob w) : Calls Tryd.prog 21 #[.agg (vals .u64 a)] w fun e w' => e = .returned (.bool (sq (num a))) ∧ Below w.heap.size w w' := by
  have P1 : Keep (∀ x : World, Glob x → _) := ⟨fun x (hG : Glob x) => someRoot_c a hla hwa x hG⟩
  obtain ⟨r, hr⟩ : ∃ o, fe (pw (num a) QQ) = o := ⟨_, rfl⟩
  have Lr : Keep (r.length = 6) := ⟨by rw [← hr]; exact fe_len _⟩
  obtain ⟨s, hs⟩ : ∃ s, sq (num a) = s := ⟨_, rfl⟩
  rw [hr, hs] at P1
  rw [hs]
  have La : Keep (a.length = 6) := ⟨hla⟩
  have Lo : Keep (Z6.length = 6) := ⟨rfl⟩
  obtain ⟨S, hS⟩ : ∃ S, w.heap.size = S := ⟨_, rfl⟩
  have qa0 : Has (w.alloc (.cells (vals .u64 a) 24)) (S) 24 (vals .u64 a) := by exact (Has.new' _ hS.symm _ _)
  have hb0 : Below S w (w.alloc (.cells (vals .u64 a) 24)) := by rw [← hS]; exact ((Below.refl _ _).alloc (Nat.le_refl _) _)
  have hsz0 : (w.alloc (.cells (vals .u64 a) 24)).heap.size = S + 1 := by simp only [World.size_alloc, hS]
  have HS0 : Keep (S ≤ w.heap.size) := ⟨by omega⟩
  have HSS : Keep (∀ x : World, Below S w x → S ≤ x.heap.size) := ⟨fun x hb => Nat.le_trans HS0.out hb.size⟩
  have HG : Keep (∀ x : World, Below S w x → Glob x) := ⟨fun x hb => hG.keep (by rw [hS]; exact hb)⟩
  rw [hS]
  clear hr hs hla hwa hG
  go_enter Tryd.func21, Tryd.ntmps21
  go_wp2_with (first
    | (refine store_abs2 (by rfl) 24 (.tmp 3) (.tmp 8) (by rfl) (by rfl) (w1.heap.size) (vals .u64 r) (by rfl) (by rfl) 24 (vals .u64 Z6) (Has.new' _ rfl _ _) (by rw [vals_size, Lr.out]; kernel_rfl) (by first | rfl | (rw [vals_size, vals_size, Lr.out]; rfl)) vals_one ?_
       intro w2 qr2 hkeep hbg
       have hbe := ((Below.refl (w1).heap.size (w1)).alloc (Nat.le_refl _) (.cells (vals .u64 Z6) 24)).trans hbg
       have Nar : Keep (S < w1.heap.size) := ⟨qa1.lt⟩
       have Mr : Keep (S ≤ w1.heap.size) := ⟨HSS.out _ hb1⟩
       have qa2 := qa1.keep hbe
       have hb2 := hb1.trans (hbe.mono (HSS.out _ hb1))
       clear hkeep hbg hbe hb1 qa1)
    | (go_at_call 53
       refine (P1.out _ (HG.out _ hb0)).mono ?_
       rintro e w1 ⟨rfl, hq⟩
       have qa1 := qa0.keep hq
       have hb1 := hb0.trans (hq.mono (HSS.out _ hb0))
       clear hq hb0 qa0)
    | (refine wpList_load_row rfl 24 (.tmp 1) rfl (S) rfl _ _ _ _ qa0.eq Tryd.underlying24 rfl (by rw [vals_size, La.out]; kernel_rfl) ?_))
  go_ret
  exact ⟨rfl, hb2⟩

set_option maxRecDepth 100000 in
set_option maxHeartbeats 2000000 in
theorem sign_c (a : List Int) (hla : a.length = 6) (hwa : Words a) (w : World) (hG : Glob w) : Calls Tryd.prog 35 #[.agg (vals .u64 a)] w fun e w' => e = .returned (.int .i64 (sgn (num a))) ∧ Below w.heap.size w w' := by
  have P1 : Keep (∀ x : World, Glob x → _) := ⟨fun x (hG : Glob x) => fpReduce_c a hla hwa x hG⟩
  obtain ⟨r, hr⟩ : ∃ o, fe (num a) = o := ⟨_, rfl⟩
  have Lr : Keep (r.length = 6) := ⟨by rw [← hr]; exact fe_len _⟩
  obtain ⟨s, hs⟩ : ∃ s, sgn (num a) = s := ⟨_, rfl⟩
  have hz : nth r 0 % 2 = s := by rw [← hr, ← hs]; exact sgn_nth _
  have hw0 : 0 ≤ nth r 0 ∧ nth r 0 ≤ 18446744073709551615 := by rw [← hr]; exact fe_words _ 0
  have h01 : 0 ≤ s ∧ s ≤ 1 := by have := sgn_or (num a); omega
  rw [hr] at P1
  rw [hs]
  obtain ⟨x0, hx0⟩ : ∃ x, nth r 0 = x := ⟨_, rfl⟩
  have IX : ∀ w : World, (Instr.index 24 (.agg (vals .u64 r)) (.int .i64 0)).run Tryd.prog w = .ok (.int .u64 (nth r 0)) w := fun w => run_index_vals (i := 0) Tryd.underlying24 Tryd.underlying22 rfl (by kernel_rfl) Lr.out (by omega) w
  rw [hx0] at hz hw0 IX
  have La : Keep (a.length = 6) := ⟨hla⟩
  have Lo : Keep (Z6.length = 6) := ⟨rfl⟩
  obtain ⟨S, hS⟩ : ∃ S, w.heap.size = S := ⟨_, rfl⟩
  have qa0 : Has (w.alloc (.cells (vals .u64 a) 24)) (S) 24 (vals .u64 a) := by exact (Has.new' _ hS.symm _ _)
  have hb0 : Below S w (w.alloc (.cells (vals .u64 a) 24)) := by rw [← hS]; exact ((Below.refl _ _).alloc (Nat.le_refl _) _)
  have hsz0 : (w.alloc (.cells (vals .u64 a) 24)).heap.size = S + 1 := by simp only [World.size_alloc, hS]
  have HS0 : Keep (S ≤ w.heap.size) := ⟨by omega⟩
  have HSS : Keep (∀ x : World, Below S w x → S ≤ x.heap.size) := ⟨fun x hb => Nat.le_trans HS0.out hb.size⟩
  have HG : Keep (∀ x : World, Below S w x → Glob x) := ⟨fun x hb => hG.keep (by rw [hS]; exact hb)⟩
  rw [hS]
  clear hr hs hla hwa hG
  go_enter Tryd.func35, Tryd.ntmps35
  go_wp2_with (first
    | (go_at_call 46
       refine (P1.out _ (HG.out _ hb0)).mono ?_
       rintro e w1 ⟨rfl, hq⟩
       have qa1 := qa0.keep hq
       have hb1 := hb0.trans (hq.mono (HSS.out _ hb0))
       clear hq hb0 qa0)
    | (refine wpList_load_row rfl 24 (.tmp 1) rfl (S) rfl _ _ _ _ qa0.eq Tryd.underlying24 rfl (by rw [vals_size, La.out]; kernel_rfl) ?_))
  go_ret
  exact ⟨rfl, hb1⟩

end Go.Proofs.YtoogmgckbalboaaDoor.Fpr

/-
  Own text. The contracts of layer 5's landed package: Sqrt, Bigger.
-/
namespace Go.Proofs.YtoogmgckbalboaaDoor.Fpr
set_option linter.unusedVariables false
set_option linter.unusedSimpArgs false
open Go Go.RowKit Go.Proofs.YtoogmgckbalboaaDoor.Reg Go.Proofs.YtoogmgckbalboaaDoor.Base Go.Proofs.YtoogmgckbalboaaDoor.Limb Go.Proofs.YtoogmgckbalboaaDoor.Bits Go.Proofs.YtoogmgckbalboaaDoor.Fp

set_option maxRecDepth 100000 in
set_option maxHeartbeats 2000000 in
theorem even_0 (a : List Int) (hla : a.length = 6) (hwa : Words a) (h : sgn (num a) = 0) (w : World) (hG : Glob w) : Calls Tryd.prog 54 #[.agg (vals .u64 a)] w fun e w' => e = .returned (.bool true) ∧ Below w.heap.size w w' := by
  have P1 : Keep (∀ x : World, Glob x → _) := ⟨fun x (hG : Glob x) => sign_c a hla hwa x hG⟩
  rw [h] at P1
  have La : Keep (a.length = 6) := ⟨hla⟩
  have Lo : Keep (Z6.length = 6) := ⟨rfl⟩
  obtain ⟨S, hS⟩ : ∃ S, w.heap.size = S := ⟨_, rfl⟩
  have qa0 : Has (w.alloc (.cells (vals .u64 a) 24)) (S) 24 (vals .u64 a) := by exact (Has.new' _ hS.symm _ _)
  have hb0 : Below S w (w.alloc (.cells (vals .u64 a) 24)) := by rw [← hS]; exact ((Below.refl _ _).alloc (Nat.le_refl _) _)
  have hsz0 : (w.alloc (.cells (vals .u64 a) 24)).heap.size = S + 1 := by simp only [World.size_alloc, hS]
  have HS0 : Keep (S ≤ w.heap.size) := ⟨by omega⟩
  have HSS : Keep (∀ x : World, Below S w x → S ≤ x.heap.size) := ⟨fun x hb => Nat.le_trans HS0.out hb.size⟩
  have HG : Keep (∀ x : World, Below S w x → Glob x) := ⟨fun x hb => hG.keep (by rw [hS]; exact hb)⟩
  rw [hS]
  clear h hla hwa hG
  go_enter Tryd.func54, Tryd.ntmps54
  go_wp2_with (first
    | (go_at_call 35
       refine (P1.out _ (HG.out _ hb0)).mono ?_
       rintro e w1 ⟨rfl, hq⟩
       have qa1 := qa0.keep hq
       have hb1 := hb0.trans (hq.mono (HSS.out _ hb0))
       clear hq hb0 qa0)
    | (refine wpList_load_row rfl 24 (.tmp 1) rfl (S) rfl _ _ _ _ qa0.eq Tryd.underlying24 rfl (by rw [vals_size, La.out]; kernel_rfl) ?_))
  go_ret
  exact ⟨rfl, hb1⟩

set_option maxRecDepth 100000 in
set_option maxHeartbeats 2000000 in
theorem even_1 (a : List Int) (hla : a.length = 6) (hwa : Words a) (h : sgn (num a) = 1) (w : World) (hG : Glob w) : Calls Tryd.prog 54 #[.agg (vals .u64 a)] w fun e w' => e = .returned (.bool false) ∧ Below w.heap.size w w' := by
  have P1 : Keep (∀ x : World, Glob x → _) := ⟨fun x (hG : Glob x) => sign_c a hla hwa x hG⟩
  rw [h] at P1
  have La : Keep (a.length = 6) := ⟨hla⟩
  have Lo : Keep (Z6.length = 6) := ⟨rfl⟩
  obtain ⟨S, hS⟩ : ∃ S, w.heap.size = S := ⟨_, rfl⟩
  have qa0 : Has (w.alloc (.cells (vals .u64 a) 24)) (S) 24 (vals .u64 a) := by exact (Has.new' _ hS.symm _ _)
  have hb0 : Below S w (w.alloc (.cells (vals .u64 a) 24)) := by rw [← hS]; exact ((Below.refl _ _).alloc (Nat.le_refl _) _)
  have hsz0 : (w.alloc (.cells (vals .u64 a) 24)).heap.size = S + 1 := by simp only [World.size_alloc, hS]
  have HS0 : Keep (S ≤ w.heap.size) := ⟨by omega⟩
  have HSS : Keep (∀ x : World, Below S w x → S ≤ x.heap.size) := ⟨fun x hb => Nat.le_trans HS0.out hb.size⟩
  have HG : Keep (∀ x : World, Below S w x → Glob x) := ⟨fun x hb => hG.keep (by rw [hS]; exact hb)⟩
  rw [hS]
  clear h hla hwa hG
  go_enter Tryd.func54, Tryd.ntmps54
  go_wp2_with (first
    | (go_at_call 35
       refine (P1.out _ (HG.out _ hb0)).mono ?_
       rintro e w1 ⟨rfl, hq⟩
       have qa1 := qa0.keep hq
       have hb1 := hb0.trans (hq.mono (HSS.out _ hb0))
       clear hq hb0 qa0)
    | (refine wpList_load_row rfl 24 (.tmp 1) rfl (S) rfl _ _ _ _ qa0.eq Tryd.underlying24 rfl (by rw [vals_size, La.out]; kernel_rfl) ?_))
  go_ret
  exact ⟨rfl, hb1⟩

set_option maxRecDepth 100000 in
set_option maxHeartbeats 2000000 in
theorem wanted_0 (a : List Int) (hla : a.length = 6) (hwa : Words a) (h : sgn (num a) = 0) (w : World) (hG : Glob w) : Calls Tryd.prog 55 #[.agg (vals .u64 a), .func (.func 54) #[] #[]] w fun e w' => e = .returned (.agg (vals .u64 (a))) ∧ Below w.heap.size w w' := by
  have P1 : Keep (∀ x : World, Glob x → _) := ⟨fun x (hG : Glob x) => even_0 a hla hwa h x hG⟩
  have La : Keep (a.length = 6) := ⟨hla⟩
  have Lo : Keep (Z6.length = 6) := ⟨rfl⟩
  obtain ⟨S, hS⟩ : ∃ S, w.heap.size = S := ⟨_, rfl⟩
  have qa0 : Has ((w.alloc (.cells (vals .u64 a) 24)).alloc (.cells (vals .u64 Z6) 24)) (S) 24 (vals .u64 a) := by exact ((Has.new' _ hS.symm _ _).alloc _)
  have qo0 : Has ((w.alloc (.cells (vals .u64 a) 24)).alloc (.cells (vals .u64 Z6) 24)) (S + 1) 24 (vals .u64 Z6) := by exact (Has.new' _ (by simp only [World.size_alloc, hS]) _ _)
  have hb0 : Below S w ((w.alloc (.cells (vals .u64 a) 24)).alloc (.cells (vals .u64 Z6) 24)) := by rw [← hS]; exact (((Below.refl _ _).alloc (Nat.le_refl _) _).alloc (by simp) _)
  have hsz0 : ((w.alloc (.cells (vals .u64 a) 24)).alloc (.cells (vals .u64 Z6) 24)).heap.size = S + 2 := by simp only [World.size_alloc, hS]
  have HS0 : Keep (S ≤ w.heap.size) := ⟨by omega⟩
  have HSS : Keep (∀ x : World, Below S w x → S ≤ x.heap.size) := ⟨fun x hb => Nat.le_trans HS0.out hb.size⟩
  have HG : Keep (∀ x : World, Below S w x → Glob x) := ⟨fun x hb => hG.keep (by rw [hS]; exact hb)⟩
  rw [hS]
  clear h hla hwa hG
  go_enter Tryd.func55, Tryd.ntmps55
  go_wp2_with (first
    | (refine store_abs2 (by rfl) 24 (.tmp 4) (.tmp 8) (by rfl) (by rfl) (S + 1) (vals .u64 a) (by rfl) (by rfl) 24 _ qo1 (by rw [vals_size, La.out]; kernel_rfl) (by first | rfl | (rw [vals_size, vals_size, La.out]; rfl) | rw [vals_size, vals_size, La.out, Lo.out]) vals_one ?_
       intro w2 qo2 hkeep hbg
       have qa2 := hkeep _ _ _ qa1 (by omega)
       have hb2 := hb1.trans (hbg.mono (by omega))
       clear hkeep hbg hb1 qa1 qo1)
    | (refine wpList_load_row rfl 24 (.tmp 2) rfl (S) rfl _ _ _ _ qa1.eq Tryd.underlying24 rfl (by rw [vals_size, La.out]; kernel_rfl) ?_)
    | (go_at_call 54
       refine (P1.out _ (HG.out _ hb0)).mono ?_
       rintro e w1 ⟨rfl, hq⟩
       have qa1 := qa0.keep hq
       have qo1 := qo0.keep hq
       have hb1 := hb0.trans (hq.mono (HSS.out _ hb0))
       clear hq hb0 qa0 qo0)
    | (refine wpList_load_row rfl 24 (.tmp 2) rfl (S) rfl _ _ _ _ qa0.eq Tryd.underlying24 rfl (by rw [vals_size, La.out]; kernel_rfl) ?_))
  refine bodyPost_ret (v := .agg (vals .u64 a)) (results_cell_row rfl _ _ (S + 1) _ _ _ _ rfl qo2.eq Tryd.underlying24 rfl (by rw [vals_size, La.out]; kernel_rfl)) rfl ⟨rfl, hb2⟩

set_option maxRecDepth 100000 in
set_option maxHeartbeats 2000000 in
theorem wanted_1 (a : List Int) (hla : a.length = 6) (hwa : Words a) (h : sgn (num a) = 1) (w : World) (hG : Glob w) : Calls Tryd.prog 55 #[.agg (vals .u64 a), .func (.func 54) #[] #[]] w fun e w' => e = .returned (.agg (vals .u64 (fe (-num a)))) ∧ Below w.heap.size w w' := by
  have P1 : Keep (∀ x : World, Glob x → _) := ⟨fun x (hG : Glob x) => even_1 a hla hwa h x hG⟩
  have P2 : Keep (∀ x : World, Glob x → _) := ⟨fun x (hG : Glob x) => fpNeg_c a hla hwa x hG⟩
  obtain ⟨n, hn⟩ : ∃ o, fe (-num a) = o := ⟨_, rfl⟩
  have Ln : Keep (n.length = 6) := ⟨by rw [← hn]; exact fe_len _⟩
  rw [hn] at P2 ⊢
  have La : Keep (a.length = 6) := ⟨hla⟩
  have Lo : Keep (Z6.length = 6) := ⟨rfl⟩
  obtain ⟨S, hS⟩ : ∃ S, w.heap.size = S := ⟨_, rfl⟩
  have qa0 : Has ((w.alloc (.cells (vals .u64 a) 24)).alloc (.cells (vals .u64 Z6) 24)) (S) 24 (vals .u64 a) := by exact ((Has.new' _ hS.symm _ _).alloc _)
  have qo0 : Has ((w.alloc (.cells (vals .u64 a) 24)).alloc (.cells (vals .u64 Z6) 24)) (S + 1) 24 (vals .u64 Z6) := by exact (Has.new' _ (by simp only [World.size_alloc, hS]) _ _)
  have hb0 : Below S w ((w.alloc (.cells (vals .u64 a) 24)).alloc (.cells (vals .u64 Z6) 24)) := by rw [← hS]; exact (((Below.refl _ _).alloc (Nat.le_refl _) _).alloc (by simp) _)
  have hsz0 : ((w.alloc (.cells (vals .u64 a) 24)).alloc (.cells (vals .u64 Z6) 24)).heap.size = S + 2 := by simp only [World.size_alloc, hS]
  have HS0 : Keep (S ≤ w.heap.size) := ⟨by omega⟩
  have HSS : Keep (∀ x : World, Below S w x → S ≤ x.heap.size) := ⟨fun x hb => Nat.le_trans HS0.out hb.size⟩
  have HG : Keep (∀ x : World, Below S w x → Glob x) := ⟨fun x hb => hG.keep (by rw [hS]; exact hb)⟩
  rw [hS]
  clear h hla hwa hG hn
  go_enter Tryd.func55, Tryd.ntmps55
  go_wp2_with (first
    | (refine store_abs2 (by rfl) 24 (.tmp 4) (.tmp 10) (by rfl) (by rfl) (S + 1) (vals .u64 n) (by rfl) (by rfl) 24 _ qo2 (by rw [vals_size, Ln.out]; kernel_rfl) (by first | rfl | (rw [vals_size, vals_size, Ln.out]; rfl) | rw [vals_size, vals_size, Ln.out, Lo.out]) vals_one ?_
       intro w3 qo3 hkeep hbg
       have qa3 := hkeep _ _ _ qa2 (by omega)
       have hb3 := hb2.trans (hbg.mono (by omega))
       clear hkeep hbg hb2 qa2 qo2)
    | (go_at_call 23
       refine (P2.out _ (HG.out _ hb1)).mono ?_
       rintro e w2 ⟨rfl, hq⟩
       have qa2 := qa1.keep hq
       have qo2 := qo1.keep hq
       have hb2 := hb1.trans (hq.mono (HSS.out _ hb1))
       clear hq hb1 qa1 qo1)
    | (refine wpList_load_row rfl 24 (.tmp 2) rfl (S) rfl _ _ _ _ qa1.eq Tryd.underlying24 rfl (by rw [vals_size, La.out]; kernel_rfl) ?_)
    | (go_at_call 54
       refine (P1.out _ (HG.out _ hb0)).mono ?_
       rintro e w1 ⟨rfl, hq⟩
       have qa1 := qa0.keep hq
       have qo1 := qo0.keep hq
       have hb1 := hb0.trans (hq.mono (HSS.out _ hb0))
       clear hq hb0 qa0 qo0)
    | (refine wpList_load_row rfl 24 (.tmp 2) rfl (S) rfl _ _ _ _ qa0.eq Tryd.underlying24 rfl (by rw [vals_size, La.out]; kernel_rfl) ?_))
  refine bodyPost_ret (v := .agg (vals .u64 n)) (results_cell_row rfl _ _ (S + 1) _ _ _ _ rfl qo3.eq Tryd.underlying24 rfl (by rw [vals_size, Ln.out]; kernel_rfl)) rfl ⟨rfl, hb3⟩

set_option maxRecDepth 100000 in
set_option maxHeartbeats 2000000 in
theorem sqrt_no (a : List Int) (hla : a.length = 6) (hwa : Words a) (h : sq (num a) = false) (w : World) (hG : Glob w) : Calls Tryd.prog 24 #[.agg (vals .u64 a)] w fun e w' => e = .returned (.tuple #[.agg (vals .u64 (Z6)), .bool false]) ∧ Below w.heap.size w w' := by
  have P1 : Keep (∀ x : World, Glob x → _) := ⟨fun x (hG : Glob x) => someRoot_c a hla hwa x hG⟩
  rw [h] at P1
  obtain ⟨r, hr⟩ : ∃ o, fe (pw (num a) QQ) = o := ⟨_, rfl⟩
  have Lr : Keep (r.length = 6) := ⟨by rw [← hr]; exact fe_len _⟩
  rw [hr] at P1
  have La : Keep (a.length = 6) := ⟨hla⟩
  have Lo : Keep (Z6.length = 6) := ⟨rfl⟩
  obtain ⟨S, hS⟩ : ∃ S, w.heap.size = S := ⟨_, rfl⟩
  have qa0 : Has ((w.alloc (.cells (vals .u64 a) 24)).alloc (.cells (vals .u64 Z6) 24)) (S) 24 (vals .u64 a) := by exact ((Has.new' _ hS.symm _ _).alloc _)
  have qo0 : Has ((w.alloc (.cells (vals .u64 a) 24)).alloc (.cells (vals .u64 Z6) 24)) (S + 1) 24 (vals .u64 Z6) := by exact (Has.new' _ (by simp only [World.size_alloc, hS]) _ _)
  have hb0 : Below S w ((w.alloc (.cells (vals .u64 a) 24)).alloc (.cells (vals .u64 Z6) 24)) := by rw [← hS]; exact (((Below.refl _ _).alloc (Nat.le_refl _) _).alloc (by simp) _)
  have hsz0 : ((w.alloc (.cells (vals .u64 a) 24)).alloc (.cells (vals .u64 Z6) 24)).heap.size = S + 2 := by simp only [World.size_alloc, hS]
  have HS0 : Keep (S ≤ w.heap.size) := ⟨by omega⟩
  have HSS : Keep (∀ x : World, Below S w x → S ≤ x.heap.size) := ⟨fun x hb => Nat.le_trans HS0.out hb.size⟩
  have HG : Keep (∀ x : World, Below S w x → Glob x) := ⟨fun x hb => hG.keep (by rw [hS]; exact hb)⟩
  rw [hS]
  clear h hla hwa hr hG
  go_enter Tryd.func24, Tryd.ntmps24
  go_wp2_with (first
    | (refine store_abs2 (by rfl) 24 (.tmp 2) (.tmp 14) (by rfl) (by rfl) (S + 1) (vals .u64 Z6) (by rfl) (by rfl) 24 _ qo2 (by rw [vals_size, Lo.out]; kernel_rfl) (by first | rfl | (rw [vals_size, vals_size, Lo.out]; rfl) | rw [vals_size, vals_size, Lo.out, Lo.out]) vals_one ?_
       intro w3 qo3 hkeep hbg
       have qa3 := hkeep _ _ _ qa2 (by omega)
       have qr3 := hkeep _ _ _ qr2 (Nat.ne_of_gt Nor.out)
       have hb3 := hb2.trans (hbg.mono (by omega))
       clear hkeep hbg hb2 qa2 qo2 qr2)
    | (refine wpList_buildTo (by rfl) 24 #[] (by rfl) (some 14) (by rfl) (vals .u64 Z6) (by kernel_rfl) ?_)
    | (refine store_abs2 (by rfl) 24 (.tmp 4) (.tmp 10) (by rfl) (by rfl) (w1.heap.size) (vals .u64 r) (by rfl) (by rfl) 24 (vals .u64 Z6) (Has.new' _ rfl _ _) (by rw [vals_size, Lr.out]; kernel_rfl) (by first | rfl | (rw [vals_size, vals_size, Lr.out]; rfl)) vals_one ?_
       intro w2 qr2 hkeep hbg
       have hbe := ((Below.refl (w1).heap.size (w1)).alloc (Nat.le_refl _) (.cells (vals .u64 Z6) 24)).trans hbg
       have Nar : Keep (S < w1.heap.size) := ⟨qa1.lt⟩
       have Nor : Keep (S + 1 < w1.heap.size) := ⟨qo1.lt⟩
       have Mr : Keep (S ≤ w1.heap.size) := ⟨HSS.out _ hb1⟩
       have qa2 := qa1.keep hbe
       have qo2 := qo1.keep hbe
       have hb2 := hb1.trans (hbe.mono (HSS.out _ hb1))
       clear hkeep hbg hbe hb1 qa1 qo1)
    | (go_at_call 53
       refine (P1.out _ (HG.out _ hb0)).mono ?_
       rintro e w1 ⟨rfl, hq⟩
       have qa1 := qa0.keep hq
       have qo1 := qo0.keep hq
       have hb1 := hb0.trans (hq.mono (HSS.out _ hb0))
       clear hq hb0 qa0 qo0)
    | (refine wpList_load_row rfl 24 (.tmp 1) rfl (S) rfl _ _ _ _ qa0.eq Tryd.underlying24 rfl (by rw [vals_size, La.out]; kernel_rfl) ?_))
  refine bodyPost_ret (v := .tuple #[.agg (vals .u64 Z6), .bool false]) (results_row_tmp rfl _ _ (S + 1) _ _ _ _ _ rfl rfl qo3.eq Tryd.underlying24 rfl (by rw [vals_size, Lo.out]; kernel_rfl)) rfl ⟨rfl, hb3⟩

set_option maxRecDepth 100000 in
set_option maxHeartbeats 2000000 in
theorem sqrt_yes0 (a : List Int) (hla : a.length = 6) (hwa : Words a) (h : sq (num a) = true) (h2 : sgn (pw (num a) QQ) = 0) (w : World) (hG : Glob w) : Calls Tryd.prog 24 #[.agg (vals .u64 a)] w fun e w' => e = .returned (.tuple #[.agg (vals .u64 (root (num a))), .bool true]) ∧ Below w.heap.size w w' := by
  have P1 : Keep (∀ x : World, Glob x → _) := ⟨fun x (hG : Glob x) => someRoot_c a hla hwa x hG⟩
  rw [h] at P1
  have wr : Words (fe (pw (num a) QQ)) := fe_words _
  have h3 : sgn (num (fe (pw (num a) QQ))) = 0 := by rw [sgn_fe]; exact h2
  have er : root (num a) = fe (pw (num a) QQ) := by
    rw [root, ev_sgn, h2]
    rfl
  obtain ⟨r, hr⟩ : ∃ o, fe (pw (num a) QQ) = o := ⟨_, rfl⟩
  have Lr : Keep (r.length = 6) := ⟨by rw [← hr]; exact fe_len _⟩
  rw [hr] at P1 wr h3 er
  rw [er]
  have P2 : Keep (∀ x : World, Glob x → _) := ⟨fun x (hG : Glob x) => wanted_0 r Lr.out wr h3 x hG⟩
  have La : Keep (a.length = 6) := ⟨hla⟩
  have Lo : Keep (Z6.length = 6) := ⟨rfl⟩
  obtain ⟨S, hS⟩ : ∃ S, w.heap.size = S := ⟨_, rfl⟩
  have qa0 : Has ((w.alloc (.cells (vals .u64 a) 24)).alloc (.cells (vals .u64 Z6) 24)) (S) 24 (vals .u64 a) := by exact ((Has.new' _ hS.symm _ _).alloc _)
  have qo0 : Has ((w.alloc (.cells (vals .u64 a) 24)).alloc (.cells (vals .u64 Z6) 24)) (S + 1) 24 (vals .u64 Z6) := by exact (Has.new' _ (by simp only [World.size_alloc, hS]) _ _)
  have hb0 : Below S w ((w.alloc (.cells (vals .u64 a) 24)).alloc (.cells (vals .u64 Z6) 24)) := by rw [← hS]; exact (((Below.refl _ _).alloc (Nat.le_refl _) _).alloc (by simp) _)
  have hsz0 : ((w.alloc (.cells (vals .u64 a) 24)).alloc (.cells (vals .u64 Z6) 24)).heap.size = S + 2 := by simp only [World.size_alloc, hS]
  have HS0 : Keep (S ≤ w.heap.size) := ⟨by omega⟩
  have HSS : Keep (∀ x : World, Below S w x → S ≤ x.heap.size) := ⟨fun x hb => Nat.le_trans HS0.out hb.size⟩
  have HG : Keep (∀ x : World, Below S w x → Glob x) := ⟨fun x hb => hG.keep (by rw [hS]; exact hb)⟩
  rw [hS]
  clear h hla hwa hr h2 h3 er wr hG
  go_enter Tryd.func24, Tryd.ntmps24
  go_wp2_with (first
    | (refine store_abs2 (by rfl) 24 (.tmp 2) (.tmp 17) (by rfl) (by rfl) (S + 1) (vals .u64 r) (by rfl) (by rfl) 24 _ qo3 (by rw [vals_size, Lr.out]; kernel_rfl) (by first | rfl | (rw [vals_size, vals_size, Lr.out]; rfl) | rw [vals_size, vals_size, Lr.out, Lo.out]) vals_one ?_
       intro w4 qo4 hkeep hbg
       have qa4 := hkeep _ _ _ qa3 (by omega)
       have qr4 := hkeep _ _ _ qr3 (Nat.ne_of_gt Nor.out)
       have hb4 := hb3.trans (hbg.mono (by omega))
       clear hkeep hbg hb3 qa3 qo3 qr3)
    | (go_at_call 55
       refine (P2.out _ (HG.out _ hb2)).mono ?_
       rintro e w3 ⟨rfl, hq⟩
       have qa3 := qa2.keep hq
       have qo3 := qo2.keep hq
       have qr3 := qr2.keep hq
       have hb3 := hb2.trans (hq.mono (HSS.out _ hb2))
       clear hq hb2 qa2 qo2 qr2)
    | (refine wpList_load_row rfl 24 (.tmp 4) rfl (w1.heap.size) rfl _ _ _ _ qr2.eq Tryd.underlying24 rfl (by rw [vals_size, Lr.out]; kernel_rfl) ?_)
    | (refine store_abs2 (by rfl) 24 (.tmp 4) (.tmp 10) (by rfl) (by rfl) (w1.heap.size) (vals .u64 r) (by rfl) (by rfl) 24 (vals .u64 Z6) (Has.new' _ rfl _ _) (by rw [vals_size, Lr.out]; kernel_rfl) (by first | rfl | (rw [vals_size, vals_size, Lr.out]; rfl)) vals_one ?_
       intro w2 qr2 hkeep hbg
       have hbe := ((Below.refl (w1).heap.size (w1)).alloc (Nat.le_refl _) (.cells (vals .u64 Z6) 24)).trans hbg
       have Nar : Keep (S < w1.heap.size) := ⟨qa1.lt⟩
       have Nor : Keep (S + 1 < w1.heap.size) := ⟨qo1.lt⟩
       have Mr : Keep (S ≤ w1.heap.size) := ⟨HSS.out _ hb1⟩
       have qa2 := qa1.keep hbe
       have qo2 := qo1.keep hbe
       have hb2 := hb1.trans (hbe.mono (HSS.out _ hb1))
       clear hkeep hbg hbe hb1 qa1 qo1)
    | (go_at_call 53
       refine (P1.out _ (HG.out _ hb0)).mono ?_
       rintro e w1 ⟨rfl, hq⟩
       have qa1 := qa0.keep hq
       have qo1 := qo0.keep hq
       have hb1 := hb0.trans (hq.mono (HSS.out _ hb0))
       clear hq hb0 qa0 qo0)
    | (refine wpList_load_row rfl 24 (.tmp 1) rfl (S) rfl _ _ _ _ qa0.eq Tryd.underlying24 rfl (by rw [vals_size, La.out]; kernel_rfl) ?_))
  refine bodyPost_ret (v := .tuple #[.agg (vals .u64 r), .bool true]) (results_row_tmp rfl _ _ (S + 1) _ _ _ _ _ rfl rfl qo4.eq Tryd.underlying24 rfl (by rw [vals_size, Lr.out]; kernel_rfl)) rfl ⟨rfl, hb4⟩

set_option maxRecDepth 100000 in
set_option maxHeartbeats 2000000 in
theorem sqrt_yes1 (a : List Int) (hla : a.length = 6) (hwa : Words a) (h : sq (num a) = true) (h2 : sgn (pw (num a) QQ) = 1) (w : World) (hG : Glob w) : Calls Tryd.prog 24 #[.agg (vals .u64 a)] w fun e w' => e = .returned (.tuple #[.agg (vals .u64 (root (num a))), .bool true]) ∧ Below w.heap.size w w' := by
  have P1 : Keep (∀ x : World, Glob x → _) := ⟨fun x (hG : Glob x) => someRoot_c a hla hwa x hG⟩
  rw [h] at P1
  have wr : Words (fe (pw (num a) QQ)) := fe_words _
  have h3 : sgn (num (fe (pw (num a) QQ))) = 1 := by rw [sgn_fe]; exact h2
  have er : root (num a) = fe (-num (fe (pw (num a) QQ))) := by
    rw [root, ev_sgn, h2]
    rw [fe_neg]; rfl
  obtain ⟨r, hr⟩ : ∃ o, fe (pw (num a) QQ) = o := ⟨_, rfl⟩
  have Lr : Keep (r.length = 6) := ⟨by rw [← hr]; exact fe_len _⟩
  rw [hr] at P1 wr h3 er
  obtain ⟨n, hn⟩ : ∃ o, fe (-num r) = o := ⟨_, rfl⟩
  have Ln : Keep (n.length = 6) := ⟨by rw [← hn]; exact fe_len _⟩
  rw [hn] at er
  rw [er]
  have P2 : Keep (∀ x : World, Glob x → _) := ⟨fun x (hG : Glob x) => wanted_1 r Lr.out wr h3 x hG⟩
  rw [hn] at P2
  have La : Keep (a.length = 6) := ⟨hla⟩
  have Lo : Keep (Z6.length = 6) := ⟨rfl⟩
  obtain ⟨S, hS⟩ : ∃ S, w.heap.size = S := ⟨_, rfl⟩
  have qa0 : Has ((w.alloc (.cells (vals .u64 a) 24)).alloc (.cells (vals .u64 Z6) 24)) (S) 24 (vals .u64 a) := by exact ((Has.new' _ hS.symm _ _).alloc _)
  have qo0 : Has ((w.alloc (.cells (vals .u64 a) 24)).alloc (.cells (vals .u64 Z6) 24)) (S + 1) 24 (vals .u64 Z6) := by exact (Has.new' _ (by simp only [World.size_alloc, hS]) _ _)
  have hb0 : Below S w ((w.alloc (.cells (vals .u64 a) 24)).alloc (.cells (vals .u64 Z6) 24)) := by rw [← hS]; exact (((Below.refl _ _).alloc (Nat.le_refl _) _).alloc (by simp) _)
  have hsz0 : ((w.alloc (.cells (vals .u64 a) 24)).alloc (.cells (vals .u64 Z6) 24)).heap.size = S + 2 := by simp only [World.size_alloc, hS]
  have HS0 : Keep (S ≤ w.heap.size) := ⟨by omega⟩
  have HSS : Keep (∀ x : World, Below S w x → S ≤ x.heap.size) := ⟨fun x hb => Nat.le_trans HS0.out hb.size⟩
  have HG : Keep (∀ x : World, Below S w x → Glob x) := ⟨fun x hb => hG.keep (by rw [hS]; exact hb)⟩
  rw [hS]
  clear h hla hwa hr h2 h3 er wr hn hG
  go_enter Tryd.func24, Tryd.ntmps24
  go_wp2_with (first
    | (refine store_abs2 (by rfl) 24 (.tmp 2) (.tmp 17) (by rfl) (by rfl) (S + 1) (vals .u64 n) (by rfl) (by rfl) 24 _ qo3 (by rw [vals_size, Ln.out]; kernel_rfl) (by first | rfl | (rw [vals_size, vals_size, Ln.out]; rfl) | rw [vals_size, vals_size, Ln.out, Lo.out]) vals_one ?_
       intro w4 qo4 hkeep hbg
       have qa4 := hkeep _ _ _ qa3 (by omega)
       have qr4 := hkeep _ _ _ qr3 (Nat.ne_of_gt Nor.out)
       have hb4 := hb3.trans (hbg.mono (by omega))
       clear hkeep hbg hb3 qa3 qo3 qr3)
    | (go_at_call 55
       refine (P2.out _ (HG.out _ hb2)).mono ?_
       rintro e w3 ⟨rfl, hq⟩
       have qa3 := qa2.keep hq
       have qo3 := qo2.keep hq
       have qr3 := qr2.keep hq
       have hb3 := hb2.trans (hq.mono (HSS.out _ hb2))
       clear hq hb2 qa2 qo2 qr2)
    | (refine wpList_load_row rfl 24 (.tmp 4) rfl (w1.heap.size) rfl _ _ _ _ qr2.eq Tryd.underlying24 rfl (by rw [vals_size, Lr.out]; kernel_rfl) ?_)
    | (refine store_abs2 (by rfl) 24 (.tmp 4) (.tmp 10) (by rfl) (by rfl) (w1.heap.size) (vals .u64 r) (by rfl) (by rfl) 24 (vals .u64 Z6) (Has.new' _ rfl _ _) (by rw [vals_size, Lr.out]; kernel_rfl) (by first | rfl | (rw [vals_size, vals_size, Lr.out]; rfl)) vals_one ?_
       intro w2 qr2 hkeep hbg
       have hbe := ((Below.refl (w1).heap.size (w1)).alloc (Nat.le_refl _) (.cells (vals .u64 Z6) 24)).trans hbg
       have Nar : Keep (S < w1.heap.size) := ⟨qa1.lt⟩
       have Nor : Keep (S + 1 < w1.heap.size) := ⟨qo1.lt⟩
       have Mr : Keep (S ≤ w1.heap.size) := ⟨HSS.out _ hb1⟩
       have qa2 := qa1.keep hbe
       have qo2 := qo1.keep hbe
       have hb2 := hb1.trans (hbe.mono (HSS.out _ hb1))
       clear hkeep hbg hbe hb1 qa1 qo1)
    | (go_at_call 53
       refine (P1.out _ (HG.out _ hb0)).mono ?_
       rintro e w1 ⟨rfl, hq⟩
       have qa1 := qa0.keep hq
       have qo1 := qo0.keep hq
       have hb1 := hb0.trans (hq.mono (HSS.out _ hb0))
       clear hq hb0 qa0 qo0)
    | (refine wpList_load_row rfl 24 (.tmp 1) rfl (S) rfl _ _ _ _ qa0.eq Tryd.underlying24 rfl (by rw [vals_size, La.out]; kernel_rfl) ?_))
  refine bodyPost_ret (v := .tuple #[.agg (vals .u64 n), .bool true]) (results_row_tmp rfl _ _ (S + 1) _ _ _ _ _ rfl rfl qo4.eq Tryd.underlying24 rfl (by rw [vals_size, Ln.out]; kernel_rfl)) rfl ⟨rfl, hb4⟩

set_option maxRecDepth 100000 in
set_option maxHeartbeats 2000000 in
theorem sqrt_c (a : List Int) (hla : a.length = 6) (hwa : Words a) (w : World) (hG : Glob w) : Calls Tryd.prog 24 #[.agg (vals .u64 a)] w fun e w' => e = .returned (.tuple #[.agg (vals .u64 (if sq (num a) = true then root (num a) else Z6)), .bool (sq (num a))]) ∧ Below w.heap.size w w' := by
  by_cases h : sq (num a) = true
  · rw [if_pos h, h]
    rcases sgn_or (pw (num a) QQ) with h2 | h2
    · exact sqrt_yes0 a hla hwa h h2 w hG
    · exact sqrt_yes1 a hla hwa h h2 w hG
  · have h' : sq (num a) = false := by simpa using h
    rw [if_neg h, h']
    exact sqrt_no a hla hwa h' w hG

set_option maxRecDepth 100000 in
set_option maxHeartbeats 2000000 in
theorem bigger_c (a : List Int) (hla : a.length = 6) (hwa : Words a) (w : World) (hG : Glob w) : Calls Tryd.prog 39 #[.agg (vals .u64 a)] w fun e w' => e = .returned (.bool (big (num a))) ∧ Below w.heap.size w w' := by
  have P1 : Keep (∀ x : World, Glob x → _) := ⟨fun x (hG : Glob x) => fpReduce_c a hla hwa x hG⟩
  have P2 : Keep (∀ x : World, Glob x → _) := ⟨fun x (hG : Glob x) => fpNeg_c a hla hwa x hG⟩
  obtain ⟨z, hz, hzb⟩ := cmp_big (num a)
  have wr : Words (fe (num a)) := fe_words _
  have wn : Words (fe (-num a)) := fe_words _
  obtain ⟨r, hr⟩ : ∃ o, fe (num a) = o := ⟨_, rfl⟩
  have Lr : Keep (r.length = 6) := ⟨by rw [← hr]; exact fe_len _⟩
  obtain ⟨n, hn⟩ : ∃ o, fe (-num a) = o := ⟨_, rfl⟩
  have Ln : Keep (n.length = 6) := ⟨by rw [← hn]; exact fe_len _⟩
  rw [hr, hn] at hz
  rw [hr] at P1 wr
  rw [hn] at P2 wn
  obtain ⟨s, hs⟩ : ∃ s, big (num a) = s := ⟨_, rfl⟩
  rw [hs] at hzb ⊢
  have P3 : Keep (∀ (x : World) (g g' : Nat), Has x g 24 (vals .u64 r) → Has x g' 24 (vals .u64 n) → Calls Tryd.prog 70 #[.slice (some ⟨g, 0, none⟩) 6 6, .slice (some ⟨g', 0, none⟩) 6 6] x fun e x' => e = .returned (.int .i64 z) ∧ Below x.heap.size x x') := ⟨fun x g g' h h' => by
    have h1 := cmp_c (some ⟨g, 0, none⟩) 6 6 r (some ⟨g', 0, none⟩) 6 6 n x.heap.size x (Rd.of_has h h.lt (by rw [List.drop_zero, take_all Lr.out]) (by rw [Lr.out]; omega)) wr (Rd.of_has h' h'.lt (by rw [List.drop_zero, take_all Ln.out]) (by rw [Ln.out]; omega)) wn (Nat.le_refl _) (by omega) (by omega)
    rw [hz] at h1
    exact h1⟩
  have HZ : Keep (decide (0 < z) = s) := ⟨hzb⟩
  have La : Keep (a.length = 6) := ⟨hla⟩
  have Lo : Keep (Z6.length = 6) := ⟨rfl⟩
  obtain ⟨S, hS⟩ : ∃ S, w.heap.size = S := ⟨_, rfl⟩
  have qa0 : Has (w.alloc (.cells (vals .u64 a) 24)) (S) 24 (vals .u64 a) := by exact (Has.new' _ hS.symm _ _)
  have hb0 : Below S w (w.alloc (.cells (vals .u64 a) 24)) := by rw [← hS]; exact ((Below.refl _ _).alloc (Nat.le_refl _) _)
  have hsz0 : (w.alloc (.cells (vals .u64 a) 24)).heap.size = S + 1 := by simp only [World.size_alloc, hS]
  have HS0 : Keep (S ≤ w.heap.size) := ⟨by omega⟩
  have HSS : Keep (∀ x : World, Below S w x → S ≤ x.heap.size) := ⟨fun x hb => Nat.le_trans HS0.out hb.size⟩
  have HG : Keep (∀ x : World, Below S w x → Glob x) := ⟨fun x hb => hG.keep (by rw [hS]; exact hb)⟩
  rw [hS]
  clear hz hzb hr hn hs wr wn hla hwa hG
  go_enter Tryd.func39, Tryd.ntmps39
  go_wp2
  go_wp2
  change Code.wp _ _ _ _ ((w.alloc (.cells (vals .u64 a) 24)))
  obtain ⟨w0, hw0⟩ : ∃ x, (w.alloc (.cells (vals .u64 a) 24)) = x := ⟨_, rfl⟩
  rw [hw0] at hb0 qa0 ⊢
  clear hw0
  have HS : Keep (∀ x x' : World, (fun x : World => Below S w x ∧ Has x (S) 24 (vals .u64 a)) x → Below x.heap.size x x' → (fun x : World => Below S w x ∧ Has x (S) 24 (vals .u64 a)) x') := ⟨fun x x' h hb => by
    obtain ⟨hB, ha_⟩ := h
    exact ⟨hB.trans (hb.mono (HSS.out _ hB)), ha_.keep hb⟩⟩
  have hdr : (fun x : World => Below S w x ∧ Has x (S) 24 (vals .u64 a)) w0.drew := HS.out _ _ ⟨hb0, qa0⟩ ⟨rfl, rfl, rfl, Nat.le_refl _, fun _ _ => rfl⟩
  have hbd : Below w0.heap.size w0 w0.drew := ⟨rfl, rfl, rfl, Nat.le_refl _, fun _ _ => rfl⟩
  refine wp_regionU (S := (fun x : World => Below S w x ∧ Has x (S) 24 (vals .u64 a))) (by kernel_rfl) ?_
  change wpAnyU _ _ _ _ _ 8 _ _ _
  have ra := qa0.keep hbd
  have hbr := hb0.trans (hbd.mono (HSS.out _ hb0))
  clear hbd hb0 qa0
  refine wpAnyU_take (i := 0) (v := _) HS.out (by rfl) (by kernel_rfl) (by kernel_rfl) (by kernel_rfl) (fun _ _ d _ _ h => by cases d <;> exact h) hdr (Steady.load_seg (by rfl) 24 (.tmp 1) (by rfl) (S) 0 6 (by rfl) 24 .u64 a a _ (fun w hw => hw.2) Tryd.underlying24 rfl (by kernel_rfl) (by rw [List.drop_zero, take_all La.out]) (by rw [La.out]; omega)) ?_
  simp only [List.getElem_toArray, List.getElem_cons_zero, List.getElem_cons_succ, Act.put, List.setIfInBounds_toArray, List.set_cons_zero, List.set_cons_succ]
  refine wpAnyU_take (i := 1) (v := .agg (vals .u64 r)) HS.out (by rfl) (by kernel_rfl) (by kernel_rfl) (by kernel_rfl) (fun _ _ d _ _ h => by cases d <;> exact h) hdr (Or.inl ⟨by rfl, fun w hw => (by unfold Oper.quietAt; go_simp; exact P1.out _ (HG.out _ (hw.1)))⟩) ?_
  simp only [List.getElem_toArray, List.getElem_cons_zero, List.getElem_cons_succ, Act.put, List.setIfInBounds_toArray, List.set_cons_zero, List.set_cons_succ]
  refine wpAnyU_take (i := 2) (v := _) HS.out (by rfl) (by kernel_rfl) (by kernel_rfl) (by kernel_rfl) (fun _ _ d _ _ h => by cases d <;> exact h) hdr (Steady.load_seg (by rfl) 24 (.tmp 1) (by rfl) (S) 0 6 (by rfl) 24 .u64 a a _ (fun w hw => hw.2) Tryd.underlying24 rfl (by kernel_rfl) (by rw [List.drop_zero, take_all La.out]) (by rw [La.out]; omega)) ?_
  simp only [List.getElem_toArray, List.getElem_cons_zero, List.getElem_cons_succ, Act.put, List.setIfInBounds_toArray, List.set_cons_zero, List.set_cons_succ]
  refine wpAnyU_take (i := 3) (v := .agg (vals .u64 n)) HS.out (by rfl) (by kernel_rfl) (by kernel_rfl) (by kernel_rfl) (fun _ _ d _ _ h => by cases d <;> exact h) hdr (Or.inl ⟨by rfl, fun w hw => (by unfold Oper.quietAt; go_simp; exact P2.out _ (HG.out _ (hw.1)))⟩) ?_
  simp only [List.getElem_toArray, List.getElem_cons_zero, List.getElem_cons_succ, Act.put, List.setIfInBounds_toArray, List.set_cons_zero, List.set_cons_succ]
  refine wpAnyU_two (i := 4) (k := 5) (by rfl) (by rfl) (by kernel_rfl) ?_ ?_
  · intro w1 hq
    have ok1 := HS.out _ _ hdr hq
    have ra' := ra.keep hq
    have hbr' := hbr.trans (hq.mono (HSS.out _ hbr))
    clear hbr hq ra
    have Nar : Keep (S < w1.heap.size) := ⟨ra'.lt⟩
    have Mr : Keep (S ≤ w1.heap.size) := ⟨HSS.out _ hbr'⟩
    have hal : Below w1.heap.size w1 (w1.alloc (.cells (vals .u64 Z6) 24)) := (Below.refl _ _).alloc (Nat.le_refl _) _
    have ok2 := HS.out _ _ ok1 hal
    have ra := ra'.keep hal
    have rr : Has (w1.alloc (.cells (vals .u64 Z6) 24)) w1.heap.size 24 (vals .u64 Z6) := Has.new _ _ _
    have hbr := hbr'.trans (hal.mono (HSS.out _ hbr'))
    clear hal hbr' ok1 ra'
    refine wpList_own (by rfl) ?_
    go_wp2
    try refine ⟨ok2, ?_⟩
    obtain ⟨gr, hgr⟩ : ∃ g, w1.heap.size = g := ⟨_, rfl⟩
    obtain ⟨w2, hw2⟩ : ∃ x, w1.alloc (.cells (vals .u64 Z6) 24) = x := ⟨_, rfl⟩
    change wpAnyU _ _ _ _ _ _ _ _ (w1.alloc (.cells (vals .u64 Z6) 24))
    rw [hw2] at ok2 hbr ra rr ⊢
    rw [hgr] at rr Mr Nar ⊢
    clear hgr hw2
    refine wpAnyU_run (i := 5) (by rfl) (by kernel_rfl) (fun w3 hq => ?_)
    have ok3 := HS.out _ _ ok2 hq
    have ra' := ra.keep hq
    have rr' := rr.keep hq
    have hbr' := hbr.trans (hq.mono (HSS.out _ hbr))
    clear hbr hq ra rr
    have Nan : Keep (S < w3.heap.size) := ⟨ra'.lt⟩
    have Nrn : Keep (gr < w3.heap.size) := ⟨rr'.lt⟩
    have Mn : Keep (S ≤ w3.heap.size) := ⟨HSS.out _ hbr'⟩
    have hal : Below w3.heap.size w3 (w3.alloc (.cells (vals .u64 Z6) 24)) := (Below.refl _ _).alloc (Nat.le_refl _) _
    have ok4 := HS.out _ _ ok3 hal
    have ra := ra'.keep hal
    have rr := rr'.keep hal
    have rn : Has (w3.alloc (.cells (vals .u64 Z6) 24)) w3.heap.size 24 (vals .u64 Z6) := Has.new _ _ _
    have hbr := hbr'.trans (hal.mono (HSS.out _ hbr'))
    clear hal hbr' ok3 ra' rr'
    refine wpList_own (by rfl) ?_
    go_wp2
    try refine ⟨ok4, ?_⟩
    obtain ⟨gn, hgn⟩ : ∃ g, w3.heap.size = g := ⟨_, rfl⟩
    obtain ⟨w4, hw4⟩ : ∃ x, w3.alloc (.cells (vals .u64 Z6) 24) = x := ⟨_, rfl⟩
    change wpAnyU _ _ _ _ _ _ _ _ (w3.alloc (.cells (vals .u64 Z6) 24))
    rw [hw4] at ok4 hbr ra rr rn ⊢
    rw [hgn] at rn Mn Nan Nrn ⊢
    clear hgn hw4
    refine wpAnyU_run (i := 6) (by rfl) (by kernel_rfl) (fun w5 hq => ?_)
    have ok5 := HS.out _ _ ok4 hq
    have ra' := ra.keep hq
    have rr' := rr.keep hq
    have rn' := rn.keep hq
    have hbr' := hbr.trans (hq.mono (HSS.out _ hbr))
    clear hbr hq ra rr rn
    refine wpList_own (by rfl) ?_
    go_wp2_with (refine store_abs2 (by rfl) 24 (.tmp 3) (.tmp 6) (by rfl) (by rfl) (gr) (vals .u64 r) (by rfl) (by rfl) 24 _ rr' (by rw [vals_size, Lr.out]; kernel_rfl) (by first | rfl | (rw [vals_size, vals_size, Lr.out]; rfl)) vals_one ?_
                 intro w6 rr hkeep hbg
                 have ra := hkeep _ _ _ ra' (Nat.ne_of_lt Nar.out)
                 have rn := hkeep _ _ _ rn' (Nat.ne_of_gt Nrn.out)
                 have hbr := hbr'.trans (hbg.mono Mr.out)
                 clear hkeep hbg hbr' ra' rr' rn')
    try refine ⟨⟨hbr, ra⟩, ?_⟩
    have ok6 : (fun x : World => Below S w x ∧ Has x (S) 24 (vals .u64 a)) w6 := ⟨hbr, ra⟩
    clear ok5
    refine wpAnyU_run (i := 7) (by rfl) (by kernel_rfl) (fun w7 hq => ?_)
    have ok7 := HS.out _ _ ok6 hq
    have ra' := ra.keep hq
    have rr' := rr.keep hq
    have rn' := rn.keep hq
    have hbr' := hbr.trans (hq.mono (HSS.out _ hbr))
    clear hbr hq ra rr rn
    refine wpList_own (by rfl) ?_
    go_wp2_with (refine store_abs2 (by rfl) 24 (.tmp 4) (.tmp 8) (by rfl) (by rfl) (gn) (vals .u64 n) (by rfl) (by rfl) 24 _ rn' (by rw [vals_size, Ln.out]; kernel_rfl) (by first | rfl | (rw [vals_size, vals_size, Ln.out]; rfl)) vals_one ?_
                 intro w8 rn hkeep hbg
                 have ra := hkeep _ _ _ ra' (Nat.ne_of_lt Nan.out)
                 have rr := hkeep _ _ _ rr' (Nat.ne_of_lt Nrn.out)
                 have hbr := hbr'.trans (hbg.mono Mn.out)
                 clear hkeep hbg hbr' ra' rr' rn')
    try refine ⟨⟨hbr, ra⟩, ?_⟩
    have ok8 : (fun x : World => Below S w x ∧ Has x (S) 24 (vals .u64 a)) w8 := ⟨hbr, ra⟩
    clear ok7
    refine wpAnyU_end (by kernel_rfl) (fun w9 hq => ?_)
    have qa9 := ra.keep hq
    have qr9 := rr.keep hq
    have qn9 := rn.keep hq
    have hb9 := hbr.trans (hq.mono (HSS.out _ hbr))
    clear hq hbr ok8 HS  ra rr rn
    go_wp2
    refine wp_fam_all (by kernel_rfl) (by kernel_rfl) (fun I hI' fw hf hback => ?_)
    have HGf : Keep (∀ j, Glob (fw j)) := ⟨fun j => HG.out _ (hb9.trans ((hf j).mono (HSS.out _ hb9)))⟩
    repeat (first
      | go_big_quiet_step (first | fail | (go_at_call 70; with_reducible exact calls_fam hf hback (P3.out _ _ _ (qr9.keep (hf _)) (qn9.keep (hf _))))))
    refine wpQuiet_nil ?_
    intro w10 hq
    have qa10 := qa9.keep hq
    have qr10 := qr9.keep hq
    have qn10 := qn9.keep hq
    have hb10 := hb9.trans (hq.mono (HSS.out _ hb9))
    clear HGf hf hback hq hb9 qa9 qr9 qn9 
    go_wp2
    go_ret
    exact ⟨by rw [← HZ.out]; rfl, hb10⟩
  · intro w1 hq
    have ok1 := HS.out _ _ hdr hq
    have ra' := ra.keep hq
    have hbr' := hbr.trans (hq.mono (HSS.out _ hbr))
    clear hbr hq ra
    have Nan : Keep (S < w1.heap.size) := ⟨ra'.lt⟩
    have Mn : Keep (S ≤ w1.heap.size) := ⟨HSS.out _ hbr'⟩
    have hal : Below w1.heap.size w1 (w1.alloc (.cells (vals .u64 Z6) 24)) := (Below.refl _ _).alloc (Nat.le_refl _) _
    have ok2 := HS.out _ _ ok1 hal
    have ra := ra'.keep hal
    have rn : Has (w1.alloc (.cells (vals .u64 Z6) 24)) w1.heap.size 24 (vals .u64 Z6) := Has.new _ _ _
    have hbr := hbr'.trans (hal.mono (HSS.out _ hbr'))
    clear hal hbr' ok1 ra'
    refine wpList_own (by rfl) ?_
    go_wp2
    try refine ⟨ok2, ?_⟩
    obtain ⟨gn, hgn⟩ : ∃ g, w1.heap.size = g := ⟨_, rfl⟩
    obtain ⟨w2, hw2⟩ : ∃ x, w1.alloc (.cells (vals .u64 Z6) 24) = x := ⟨_, rfl⟩
    change wpAnyU _ _ _ _ _ _ _ _ (w1.alloc (.cells (vals .u64 Z6) 24))
    rw [hw2] at ok2 hbr ra rn ⊢
    rw [hgn] at rn Mn Nan ⊢
    clear hgn hw2
    refine wpAnyU_run (i := 4) (by rfl) (by kernel_rfl) (fun w3 hq => ?_)
    have ok3 := HS.out _ _ ok2 hq
    have ra' := ra.keep hq
    have rn' := rn.keep hq
    have hbr' := hbr.trans (hq.mono (HSS.out _ hbr))
    clear hbr hq ra rn
    have Nar : Keep (S < w3.heap.size) := ⟨ra'.lt⟩
    have Nnr : Keep (gn < w3.heap.size) := ⟨rn'.lt⟩
    have Mr : Keep (S ≤ w3.heap.size) := ⟨HSS.out _ hbr'⟩
    have hal : Below w3.heap.size w3 (w3.alloc (.cells (vals .u64 Z6) 24)) := (Below.refl _ _).alloc (Nat.le_refl _) _
    have ok4 := HS.out _ _ ok3 hal
    have ra := ra'.keep hal
    have rn := rn'.keep hal
    have rr : Has (w3.alloc (.cells (vals .u64 Z6) 24)) w3.heap.size 24 (vals .u64 Z6) := Has.new _ _ _
    have hbr := hbr'.trans (hal.mono (HSS.out _ hbr'))
    clear hal hbr' ok3 ra' rn'
    refine wpList_own (by rfl) ?_
    go_wp2
    try refine ⟨ok4, ?_⟩
    obtain ⟨gr, hgr⟩ : ∃ g, w3.heap.size = g := ⟨_, rfl⟩
    obtain ⟨w4, hw4⟩ : ∃ x, w3.alloc (.cells (vals .u64 Z6) 24) = x := ⟨_, rfl⟩
    change wpAnyU _ _ _ _ _ _ _ _ (w3.alloc (.cells (vals .u64 Z6) 24))
    rw [hw4] at ok4 hbr ra rn rr ⊢
    rw [hgr] at rr Mr Nar Nnr ⊢
    clear hgr hw4
    refine wpAnyU_run (i := 6) (by rfl) (by kernel_rfl) (fun w5 hq => ?_)
    have ok5 := HS.out _ _ ok4 hq
    have ra' := ra.keep hq
    have rn' := rn.keep hq
    have rr' := rr.keep hq
    have hbr' := hbr.trans (hq.mono (HSS.out _ hbr))
    clear hbr hq ra rn rr
    refine wpList_own (by rfl) ?_
    go_wp2_with (refine store_abs2 (by rfl) 24 (.tmp 3) (.tmp 6) (by rfl) (by rfl) (gr) (vals .u64 r) (by rfl) (by rfl) 24 _ rr' (by rw [vals_size, Lr.out]; kernel_rfl) (by first | rfl | (rw [vals_size, vals_size, Lr.out]; rfl)) vals_one ?_
                 intro w6 rr hkeep hbg
                 have ra := hkeep _ _ _ ra' (Nat.ne_of_lt Nar.out)
                 have rn := hkeep _ _ _ rn' (Nat.ne_of_lt Nnr.out)
                 have hbr := hbr'.trans (hbg.mono Mr.out)
                 clear hkeep hbg hbr' ra' rn' rr')
    try refine ⟨⟨hbr, ra⟩, ?_⟩
    have ok6 : (fun x : World => Below S w x ∧ Has x (S) 24 (vals .u64 a)) w6 := ⟨hbr, ra⟩
    clear ok5
    refine wpAnyU_run (i := 7) (by rfl) (by kernel_rfl) (fun w7 hq => ?_)
    have ok7 := HS.out _ _ ok6 hq
    have ra' := ra.keep hq
    have rn' := rn.keep hq
    have rr' := rr.keep hq
    have hbr' := hbr.trans (hq.mono (HSS.out _ hbr))
    clear hbr hq ra rn rr
    refine wpList_own (by rfl) ?_
    go_wp2_with (refine store_abs2 (by rfl) 24 (.tmp 4) (.tmp 8) (by rfl) (by rfl) (gn) (vals .u64 n) (by rfl) (by rfl) 24 _ rn' (by rw [vals_size, Ln.out]; kernel_rfl) (by first | rfl | (rw [vals_size, vals_size, Ln.out]; rfl)) vals_one ?_
                 intro w8 rn hkeep hbg
                 have ra := hkeep _ _ _ ra' (Nat.ne_of_lt Nan.out)
                 have rr := hkeep _ _ _ rr' (Nat.ne_of_gt Nnr.out)
                 have hbr := hbr'.trans (hbg.mono Mn.out)
                 clear hkeep hbg hbr' ra' rn' rr')
    try refine ⟨⟨hbr, ra⟩, ?_⟩
    have ok8 : (fun x : World => Below S w x ∧ Has x (S) 24 (vals .u64 a)) w8 := ⟨hbr, ra⟩
    clear ok7
    refine wpAnyU_end (by kernel_rfl) (fun w9 hq => ?_)
    have qa9 := ra.keep hq
    have qn9 := rn.keep hq
    have qr9 := rr.keep hq
    have hb9 := hbr.trans (hq.mono (HSS.out _ hbr))
    clear hq hbr ok8 HS  ra rn rr
    go_wp2
    refine wp_fam_all (by kernel_rfl) (by kernel_rfl) (fun I hI' fw hf hback => ?_)
    have HGf : Keep (∀ j, Glob (fw j)) := ⟨fun j => HG.out _ (hb9.trans ((hf j).mono (HSS.out _ hb9)))⟩
    repeat (first
      | go_big_quiet_step (first | fail | (go_at_call 70; with_reducible exact calls_fam hf hback (P3.out _ _ _ (qr9.keep (hf _)) (qn9.keep (hf _))))))
    refine wpQuiet_nil ?_
    intro w10 hq
    have qa10 := qa9.keep hq
    have qn10 := qn9.keep hq
    have qr10 := qr9.keep hq
    have hb10 := hb9.trans (hq.mono (HSS.out _ hb9))
    clear HGf hf hback hq hb9 qa9 qn9 qr9 
    go_wp2
    go_ret
    exact ⟨by rw [← HZ.out]; rfl, hb10⟩

end Go.Proofs.YtoogmgckbalboaaDoor.Fpr

