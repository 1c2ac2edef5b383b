/-
  Own text. The contract of package limb: reduce.
-/
import Derived.Test.YtpgphhinelljoaaDoorLimbOwnH
import Derived.WalkMore
namespace Go.Proofs.YtpgphhinelljoaaDoor.Limb
open Go Go.RowKit Go.Proofs.YtpgphhinelljoaaDoor.Reg Go.Proofs.YtpgphhinelljoaaDoor.Base Go.Proofs.YtpgphhinelljoaaDoor.Bits

theorem Only.then_only {g g' : Nat} {a w w' : World} (h : Only g a w) (k : Only g' w w') (hB : a.heap.size ≤ g') : Only g a w' :=
  ⟨k.os.trans h.os, k.tape.trans h.tape, k.output.trans h.output, Nat.le_trans h.size k.size, fun i hi hne => (k.block i (Nat.lt_of_lt_of_le hi h.size) (by omega)).trans (h.block i hi hne)⟩
theorem only_row {w : World} (g : Nat) (cs : Array Value) : Only g w (w.setRow g cs) := ⟨rfl, rfl, rfl, by simp, fun k _ hk => setRow_other w g k cs hk⟩
/-- copy into a row that is known whole, from a slice that is read; nothing else turns. -/
theorem copy_only {P : Program} {w : World} {ops : Array Oper} {rest : List Oper} {o : Oper} {a : Act} {Q : Exit → Act → World → Prop} (hgd : o.guard = none) (d s : Operand) (dT sT : TypeId)
    (ho : o.op = .call { callee := .builtin .copy, args := #[d, s], argTypes := #[dT, sT] }) (elem : TypeId) (hu : P.underlying dT = some (.slice elem)) (hsz : (P.info? elem).map (·.size) = some 1)
    (g off dLen dCap : Nat) (A : Option Addr) (sLen sCap : Nat) (hd : a.eval d = .slice (some ⟨g, off, none⟩) dLen dCap) (hs : a.eval s = .slice A sLen sCap)
    (k : IntKind) (t : TypeId) (xs cs : List Int) (B : Nat) (hg : Has w g t (vals k xs)) (hr : Rd w B A sLen k cs) (h0 : 0 < sLen) (hn : sLen ≤ dLen)
    (hfit : off + sLen ≤ xs.length) (zs : List Int) (hz : xs.take off ++ (cs ++ xs.drop (off + sLen)) = zs)
    (h : ∀ w', Has w' g t (vals k zs) → Only g w w' → wpList P ops Q rest (a.put o.dst (goInt sLen)) w') :
    wpList P ops Q (o :: rest) a w := by
  have hl := hr.len
  obtain ⟨b, o', rfl, _, _⟩ := hr.at_ h0
  refine wpList_copy_own hgd d s dT sT ho elem hu hsz g off dLen dCap ⟨b, o', none⟩ sLen sCap hd hs (vals k xs) t hg.eq (cs.map (Value.int k)) (by simp only [List.length_map, hl]; exact (Nat.min_eq_left hn).symm) (hr.src h0) (by simp [vals_size, hl]; exact hfit) (fun v hv => ?_) ?_
  · obtain ⟨x, _, rfl⟩ := List.mem_map.1 hv
    rfl
  · have := h (w.setRow g (vals k zs)) (hg.row _) (only_row g _)
    rw [← hz] at this
    simpa [vals, hl] using this

section
variable {R dv : List Int} {N m i j : Nat} {M Q q : Int}
/-- The part of a number that is divided next. -/
theorem part_num (hR : Words R) (hN : R.length = N) (hi : i + (m + 1) ≤ N) (hM : M ≤ wp m) (hd : num (R.drop (i + 1)) < M) :
    num ((R.drop i).take (m + 1)) = num (R.drop i) ∧ num (R.drop (i + (m + 1))) = 0 ∧ num (R.drop i) = nth R i + 18446744073709551616 * num (R.drop (i + 1)) := by
  have e1 : num (R.drop i) = nth R i + 18446744073709551616 * num (R.drop (i + 1)) := num_drop (by omega)
  have s := num_split (R.drop (i + 1)) m (by simp; omega)
  rw [List.drop_drop, show i + 1 + m = i + (m + 1) by omega] at s
  have b1 := low_bounds (words_drop hR (i + 1)) m
  have b2 := num_bounds (words_drop hR (i + (m + 1)))
  have hz : num (R.drop (i + (m + 1))) = 0 := by
    rcases Int.lt_or_le 0 (num (R.drop (i + (m + 1)))) with h | h
    · have : wp m * 1 ≤ wp m * num (R.drop (i + (m + 1))) := Int.mul_le_mul_of_nonneg_left (by omega) (Int.le_of_lt (wp_pos m))
      omega
    · omega
  have s2 := num_split (R.drop i) (m + 1) (by simp; omega)
  rw [List.drop_drop, hz, Int.mul_zero, Int.add_zero] at s2
  have e2 : num ((R.drop i).take (m + 1)) = low (R.drop i) (m + 1) := by
    rw [num, List.length_take, List.length_drop, Nat.min_eq_left (by omega)]
    exact low_congr _ fun q hq => nth_take hq
  exact ⟨by rw [e2, ← s2], hz, e1⟩
theorem part_quot (hR : Words R) (hM0 : 0 < M) (hd0 : 0 ≤ num (R.drop (i + 1))) (hd : num (R.drop (i + 1)) < M) (e : num (R.drop i) = nth R i + 18446744073709551616 * num (R.drop (i + 1))) (hQ : num (R.drop i) / M = Q) :
    0 ≤ Q ∧ Q ≤ 18446744073709551615 ∧ Q * M ≤ num (R.drop i) ∧ num (R.drop i) < Q * M + M := by
  have b := hR i
  have a := div_atoms hM0 hQ
  have h0 : 0 ≤ Q := by rw [← hQ]; exact Int.ediv_nonneg (by omega) (by omega)
  refine ⟨h0, ?_, a.1, a.2⟩
  have : Q < 18446744073709551616 := by rw [← hQ]; exact Int.ediv_lt_of_lt_mul hM0 (by omega)
  omega
/-- What is guessed is no less than the quotient. -/
theorem guess_ge {pl : List Int} (hp : Words pl) (hv : Words dv) (lp : pl.length = m + 1) (lv : dv.length = m) (hj : j + 1 = m) (hM : num dv = M) (htop : 0 < nth dv j) (hQ0 : 0 ≤ Q) (hQ1 : Q ≤ 18446744073709551615) (hQ : Q * M ≤ num pl)
    (h1 : nth dv j ≤ nth pl m → q = 18446744073709551615) (h2 : nth pl m < nth dv j → q = (nth pl m * 18446744073709551616 + nth pl j) / nth dv j) : Q ≤ q := by
  rcases Int.lt_or_le (nth pl m) (nth dv j) with h | h
  · rw [h2 h]
    refine Int.le_ediv_of_mul_le htop ?_
    subst hj
    have e1 : num pl = low pl j + wp j * (nth pl j + 18446744073709551616 * nth pl (j + 1)) := by
      rw [num, lp, low_succ, low_succ, wp_succ]; grind
    have e2 : M = low dv j + wp j * nth dv j := by rw [← hM, num, lv, low_succ]
    have b1 := low_bounds hp j
    have b2 := low_bounds hv j
    have h3 : 0 ≤ Q * low dv j := Int.mul_nonneg hQ0 b2.1
    have h4 : Q * M = Q * low dv j + wp j * (Q * nth dv j) := by rw [e2]; grind
    have pw := wp_pos j
    have h5 : wp j * (Q * nth dv j) < wp j * (nth pl j + 18446744073709551616 * nth pl (j + 1) + 1) := by
      rw [Int.mul_add (wp j) (nth pl j + _), Int.mul_one]
      omega
    have h6 := Int.lt_of_mul_lt_mul_left h5 (Int.le_of_lt pw)
    omega
  · rw [h1 h]; exact hQ1
/-- What stays when the quotient's multiple has gone. -/
theorem part_left {l' : List Int} (hR : Words R) (hN : R.length = N) (hi : i + (m + 1) ≤ N) (hw : Words l') (hl : l'.length = m + 1) (hz : num (R.drop (i + (m + 1))) = 0) (hn : num l' = num (R.drop i) - Q * M) :
    Words (R.take i ++ (l' ++ R.drop (i + (m + 1)))) ∧ (R.take i ++ (l' ++ R.drop (i + (m + 1)))).length = N ∧ num (R.take i ++ (l' ++ R.drop (i + (m + 1)))) % M = num R % M ∧ num ((R.take i ++ (l' ++ R.drop (i + (m + 1)))).drop i) = num (R.drop i) - Q * M := by
  have lt : (R.take i).length = i := by simp; omega
  have e : (R.take i ++ (l' ++ R.drop (i + (m + 1)))).drop i = l' ++ R.drop (i + (m + 1)) := by rw [List.drop_append, List.drop_eq_nil_of_le (by omega), lt, Nat.sub_self]; rfl
  refine ⟨words_append (words_take hR _) (words_append hw (words_drop hR _)), by simp [hl]; omega, ?_, ?_⟩
  · have s1 : num R = num (R.take i) + wp i * num (R.drop i) := by
      have h := num_append (R.take i) (R.drop i)
      rw [List.take_append_drop, lt] at h
      exact h
    have : num (R.take i ++ (l' ++ R.drop (i + (m + 1)))) = num R - wp i * Q * M := by
      rw [num_append, lt, num_append, hz, hn, s1]; grind
    rw [this, Int.sub_mul_emod_self_right]
  · rw [e, num_append, hz, hn]; omega
end

set_option maxRecDepth 100000 in
set_option maxHeartbeats 2000000 in
theorem reduce_c (gr gd N m j cd : Nat) (R DV dv : List Int) (M : Int) (w : World) (hR : Has w gr 22 (vals .u64 R)) (hwR : Words R) (hN : R.length = N) (hD : Has w gd 22 (vals .u64 DV)) (hgd : gd ≠ gr) (hlD : DV.length = m + 1) (hdv : dv = DV.take m) (hwd : Words dv) (hM : num dv = M) (hj : j + 1 = m) (htop : 9223372036854775808 ≤ nth dv j) (hhigh : num (R.drop (N - m)) < M) (hNb : N ≤ 10001) (hmb : m ≤ 10000) :
    Calls Tryd.prog 59 #[.slice (some ⟨gr, 0, none⟩) N N, .slice (some ⟨gd, 0, none⟩) m cd] w fun e w' => e = .returned (.tuple #[]) ∧ (∃ R', Has w' gr 22 (vals .u64 R') ∧ Words R' ∧ R'.length = N ∧ num R' = num R % M) ∧ Only gr w w' := by
  have lv : dv.length = m := by rw [hdv]; simp; omega
  have hM1 : M < wp m := by have := num_bounds hwd; rw [lv, hM] at this; exact this.2
  have hM0 : 0 < M := by
    have e2 : M = low dv j + wp j * nth dv j := by rw [← hM, num, lv, ← hj, low_succ]
    have h1 := low_bounds hwd j
    have h2 : wp j * 1 ≤ wp j * nth dv j := Int.mul_le_mul_of_nonneg_left (by omega) (Int.le_of_lt (wp_pos j))
    have := wp_pos j
    omega
  obtain ⟨S, hS⟩ : ∃ S, w.heap.size = S := ⟨_, rfl⟩
  obtain ⟨L, hL⟩ : ∃ L, m + 1 = L := ⟨_, rfl⟩
  have hLi : (m : Int) + 1 = (L : Int) := by omega
  have HL : Keep _ := ⟨hL⟩
  have hgrS : gr < S := by rw [← hS]; exact hR.lt
  have hgdS : gd < S := by rw [← hS]; exact hD.lt
  have hmk : ∀ w, (Instr.makeSlice 41 (.int .i64 L) (.int .i64 L)).run Tryd.prog w = .ok (.slice (some ⟨w.heap.size, 0, none⟩) L L) (w.alloc (.cells (vals .u64 (List.replicate L 0)) 22)) := fun w => run_make_vals w _ _ .u64 Tryd.underlying41 u64Elem .i64 .i64 L (by omega) (by omega)
  have C : Keep (R.length = N ∧ 0 < M ∧ M < wp m ∧ num dv = M ∧ Words dv ∧ dv.length = m ∧ dv = DV.take m ∧ DV.length = m + 1 ∧ 9223372036854775808 ≤ nth dv j ∧ j + 1 = m ∧ m + 1 = L) := ⟨hN, hM0, hM1, hM, hwd, lv, hdv, hlD, htop, hj, hL⟩
  have RD : Keep (∀ w', Has w' gd 22 (vals .u64 DV) → Rd w' (gd + 1) (some ⟨gd, 0, none⟩) m .u64 dv) := ⟨fun w' h => Rd.of_has h (by omega) (by rw [List.drop_zero]; exact hdv) (by omega)⟩
  obtain ⟨T, hT⟩ : ∃ T, num R % M = T := ⟨_, rfl⟩
  have HTT : Keep _ := ⟨hT⟩
  have HST : Keep (Words R ∧ R.length = N ∧ num R % M = T ∧ num (R.drop (N - m)) < M) := ⟨hwR, hN, hT, hhigh⟩
  rw [hT]
  clear hT
  have HK : Keep ((N - m = 0 ∧ (N : Int) - L < 0) ∨ (0 < N - m ∧ (N : Int) - L = ((N - m : Nat) : Int) - 1)) := ⟨by omega⟩
  have hnm : N - m + m ≤ N ∨ N - m = 0 := by omega
  have hT0 : Has (w.alloc (.cells (vals .u64 (List.replicate L 0)) 22)) S 22 (vals .u64 (List.replicate L 0)) := Has.new' _ hS.symm _ _
  have hR0 := hR.alloc (.cells (vals .u64 (List.replicate L 0)) 22)
  have hD0 := hD.alloc (.cells (vals .u64 (List.replicate L 0)) 22)
  have hb0 : Only gr w (w.alloc (.cells (vals .u64 (List.replicate L 0)) 22)) := Only.of_below ((Below.refl _ _).alloc (Nat.le_refl _) _) gr
  have HT0 : Keep (Words (List.replicate L 0) ∧ (List.replicate L (0 : Int)).length = L) := ⟨words_zeros L, by simp⟩
  have HS : Keep _ := ⟨hS⟩
  have hLb : 0 < L ∧ L ≤ 10001 := by omega
  obtain ⟨K, hK⟩ : ∃ K, N - m = K := ⟨_, rfl⟩
  obtain ⟨Z, hZ⟩ : ∃ Z, (N : Int) - (L : Int) = Z := ⟨_, rfl⟩
  rw [hK] at HST HK hnm
  rw [hZ] at HK
  have hKb : K ≤ N := by omega
  have hZb : Z ≤ 10001 := by omega
  have hZK : (Z + 1).toNat ≤ 10001 := by omega
  have hK' : K + m ≤ N ∨ K = 0 := hnm
  clear hR hD hwR hN hlD hdv hwd hM htop hhigh lv hM1 hM0 hL hK hnm hj
  go_enter Tryd.func59, Tryd.ntmps59
  go_wp2
  go_step3
  go_wp2
  go_step3
  go_wp2
  go_loopg [5] 10002 (fun (gk : Nat) vz wr => ∃ (k : Nat) (z : Int) (R' tl : List Int), vz = .int .i64 z ∧ z ≤ 10001 ∧ (z + 1).toNat ≤ gk ∧ Keep ((k = 0 ∧ z < 0) ∨ (0 < k ∧ z = (k : Int) - 1)) ∧ (k + m ≤ N ∨ k = 0) ∧ Has wr gr 22 (vals .u64 R') ∧ Has wr gd 22 (vals .u64 DV) ∧ Has wr S 22 (vals .u64 tl) ∧ Keep (Words tl ∧ tl.length = L) ∧ Keep (Words R' ∧ R'.length = N ∧ num R' % M = T ∧ num (R'.drop k) < M) ∧ Only gr w wr)
  case atStart => exact ⟨K, Z, R, _, rfl, hZb, by omega, HK, hK', hR0, hD0, hT0, HT0, HST, hb0⟩
  case round =>
    clear hR0 hD0 hT0 HT0 HST hb0 HK hmk hK' hZb hKb hZK
    obtain ⟨k, z, R', tl, rfl, hz1, hgk, hk, hkm, hRr, hDd, hTt, HT, HR, hb⟩ := hrel
    rcases Int.lt_or_le z 0 with hz | hz
    · have hk0 : k = 0 := by have := hk.out; omega
      subst hk0
      have HE : Keep (num R' = T) := ⟨by
        have h1 := HR.out.2.2.2
        rw [List.drop_zero] at h1
        rw [← HR.out.2.2.1, Int.emod_eq_of_lt (num_bounds HR.out.1).1 h1]⟩
      have hnz : ¬ 0 ≤ z := by omega
      clear hk hkm hgk
      go_wp2
      go_end0
      exact ⟨rfl, ⟨R', hRr, HR.out.1, HR.out.2.1, HE.out⟩, hb⟩
    · obtain ⟨i, rfl⟩ := Int.eq_ofNat_of_zero_le hz
      have hki : k = i + 1 := by have := hk.out; omega
      subst hki
      have hiN : i + (m + 1) ≤ N := by omega
      have hiL : i + L ≤ N := by have := HL.out; omega
      obtain ⟨mg, rfl⟩ : ∃ mg, gk = mg + 1 := ⟨gk - 1, by omega⟩
      have hgk' : i ≤ mg := by omega
      have pn := part_num HR.out.1 HR.out.2.1 hiN (Int.le_of_lt C.out.2.2.1) HR.out.2.2.2
      obtain ⟨Q, hQ⟩ : ∃ Q, num (R'.drop i) / M = Q := ⟨_, rfl⟩
      have pq := part_quot HR.out.1 C.out.2.1 (num_bounds (words_drop HR.out.1 (i + 1))).1 HR.out.2.2.2 pn.2.2 hQ
      obtain ⟨pl, hpl⟩ : ∃ pl, (R'.drop i).take (m + 1) = pl := ⟨_, rfl⟩
      have PL : Keep (pl.length = L ∧ Words pl ∧ num pl = num (R'.drop i) ∧ (R'.drop i).take L = pl) := ⟨by rw [← hpl, ← HL.out]; simp; have := HR.out.2.1; omega, by rw [← hpl]; exact words_take (words_drop HR.out.1 _) _, by rw [← hpl]; exact pn.1, by rw [← HL.out]; exact hpl⟩
      have RP : Keep (∀ w', Has w' gr 22 (vals .u64 R') → Rd w' (gr + 1) (some ⟨gr, i, none⟩) L .u64 pl) := ⟨fun w' h => Rd.of_has h (by omega) PL.out.2.2.2.symm (by have := HR.out.2.1; omega)⟩
      have PQ : Keep _ := ⟨pq⟩
      have PZ : Keep (num (R'.drop (i + (m + 1))) = 0) := ⟨pn.2.1⟩
      have hQ1 : 0 ≤ Q ∧ Q ≤ 18446744073709551615 := ⟨pq.1, pq.2.1⟩
      clear hk hkm hgk pn pq hpl hQ hz
      have hil : i + L - i = L := by omega
      have GU := fun w' (hRr : Has w' gr 22 (vals .u64 R')) hDd hB hB' => guess_c (some ⟨gr, i, none⟩) m j (N - i) pl (some ⟨gd, 0, none⟩) cd dv (gr + 1) (gd + 1) w' (by rw [HL.out]; exact RP.out _ hRr) (RD.out _ hDd) PL.out.2.1 C.out.2.2.2.2.1 hB hB' C.out.2.2.2.2.2.2.2.2.2.1 hmb C.out.2.2.2.2.2.2.2.2.1
      rw [HL.out] at GU
      have GU' : Keep _ := ⟨GU⟩
      clear GU
      go_wp2_with (go_at_call 90
                   refine (GU'.out _ hRr hDd (by have := hb.size; have := HS.out; omega) (by have := hb.size; have := HS.out; omega)).mono ?_
                   rintro e w2 ⟨q, rfl, hq0, hq1, hqa, hqb, hb2⟩
                   have HQ : Keep (Q ≤ q) := ⟨guess_ge PL.out.2.1 C.out.2.2.2.2.1 (by rw [HL.out]; exact PL.out.1) C.out.2.2.2.2.2.1 C.out.2.2.2.2.2.2.2.2.2.1 C.out.2.2.2.1 (by have := C.out.2.2.2.2.2.2.2.2.1; omega) hQ1.1 hQ1.2 (by rw [PL.out.2.2.1]; exact PQ.out.2.2.1) hqa hqb⟩
                   have hR2 := hRr.keep hb2
                   have hD2 := hDd.keep hb2
                   have hT2 := hTt.keep hb2
                   have hbb2 := hb.then hb2 hb.size
                   clear hRr hDd hTt hb hb2 hqa hqb)
      go_loopg [7] 18446744073709551617 (fun (gi : Nat) vq wr => ∃ (q : Int) (tl : List Int), vq = .int .u64 q ∧ Q ≤ q ∧ q ≤ 18446744073709551615 ∧ q.toNat ≤ gi ∧ Has wr gr 22 (vals .u64 R') ∧ Has wr gd 22 (vals .u64 DV) ∧ Has wr S 22 (vals .u64 tl) ∧ Keep (Words tl ∧ tl.length = L) ∧ Only gr w wr)
      case atStart => exact ⟨q, tl, rfl, HQ.out, hq1, by omega, hR2, hD2, hT2, HT, hbb2⟩
      case round =>
        clear hR2 hD2 hT2 HT hbb2 HQ hq0 hq1 tl
        obtain ⟨q, tl, rfl, hqQ, hq1, hgi, hRr, hDd, hTt, HT, hb⟩ := hrel
        have hq0 : 0 ≤ q := by omega
        have hpm : q * num dv = q * M := by rw [C.out.2.2.2.1]
        have hSz : S ≤ wr.heap.size := by have := hb.size; have := HS.out; omega
        have ST := fun w2 hT2 hD2 => subTimes_c S m L pl (some ⟨gd, 0, none⟩) cd dv q (gd + 1) w2 hT2 PL.out.2.1 (by rw [HL.out]; exact PL.out.1) (RD.out w2 hD2) C.out.2.2.2.2.1 (by omega) hq0 hq1 hmb
        rw [HL.out, hpm, PL.out.2.2.1] at ST
        have ST' : Keep _ := ⟨ST⟩
        have hz : tl.take 0 ++ (pl ++ tl.drop (0 + L)) = pl := by rw [List.take_zero, List.nil_append, List.drop_eq_nil_of_le (by have := HT.out.2; omega), List.append_nil]
        have HZ : Keep _ := ⟨hz⟩
        clear ST hpm hz
        rcases Int.lt_or_le Q q with hlt | hge
        · have HDEC : Keep (decide (q * M ≤ num (R'.drop i)) = false) := ⟨by
            rw [decide_eq_false_iff_not]
            have h1 := PQ.out.2.2.2
            have h2 : (Q + 1) * M ≤ q * M := Int.mul_le_mul_of_nonneg_right (by omega) (by have := C.out.2.1; omega)
            rw [Int.add_mul, Int.one_mul] at h2
            omega⟩
          have hwd : IntKind.u64.wrap (q - 1) = q - 1 := by rw [IntKind.wrap_u64]; omega
          obtain ⟨mi, rfl⟩ : ∃ mi, gk = mi + 1 := ⟨gk - 1, by omega⟩
          go_wp2_with (first
            | (refine copy_only (by rfl) (.tmp 33) (.tmp 34) 41 41 (by rfl) 22 Tryd.underlying41 (by kernel_rfl) S 0 L _ (some ⟨gr, i, none⟩) L _ (by rfl) (by rfl) .u64 22 tl pl (gr + 1) hTt (RP.out _ hRr) (by omega) (Nat.le_refl _) (by have := HT.out.2; omega) pl HZ.out ?_
               intro w2 hT2 hon2
               have hR2 := hon2.has hRr (by omega)
               have hD2 := hon2.has hDd (by omega)
               have hb2 := hb.then_only hon2 (by have := HS.out; omega)
               clear hTt hRr hDd hb hon2)
            | (go_at_call 91
               refine (ST'.out _ hT2 hD2).mono ?_
               rintro e w3 ⟨l', rfl, hT3, hwl, hll, hnl, hon3⟩
               rw [HDEC.out]
               have HT3 : Keep (Words l' ∧ l'.length = L) := ⟨hwl, hll⟩
               have hR3 := hon3.has hR2 (by omega)
               have hD3 := hon3.has hD2 (by omega)
               have hb3 := hb2.then_only hon3 (by have := HS.out; omega)
               clear hT2 hR2 hD2 hb2 hon3 hwl hll hnl))
          go_roundg mi
          case measure => omega
          case rel => exact ⟨q - 1, l', rfl, by omega, by omega, by omega, hR3, hD3, hT3, HT3, hb3⟩
        · obtain rfl : Q = q := by omega
          have HDEC : Keep (decide (Q * M ≤ num (R'.drop i)) = true) := ⟨by rw [decide_eq_true_iff]; exact PQ.out.2.2.1⟩
          go_wp2_with (first
            | (have q1 := f2
               refine copy_only (by rfl) (.tmp 40) (.tmp 41) 41 41 (by rfl) 22 Tryd.underlying41 (by kernel_rfl) gr i L _ (some ⟨S, 0, none⟩) L _ (by rfl) (by rfl) .u64 22 R' l' (S + 1) hR3 (Rd.of_has hT3 (by omega) (by rw [List.drop_zero, take_all HT3.out.2]) (by have := HT3.out.2; omega)) (by omega) (Nat.le_refl _) (by have := HR.out.2.1; omega) _ rfl ?_
               intro w4 hR4 hon4
               have hT4 := hon4.has hT3 (by omega)
               have hD4 := hon4.has hD3 (by omega)
               have hb4 := hb3.trans hon4
               clear hT3 hR3 hD3 hb3 hon4 q1 f2)
            | (refine copy_only (by rfl) (.tmp 33) (.tmp 34) 41 41 (by rfl) 22 Tryd.underlying41 (by kernel_rfl) S 0 L _ (some ⟨gr, i, none⟩) L _ (by rfl) (by rfl) .u64 22 tl pl (gr + 1) hTt (RP.out _ hRr) (by omega) (Nat.le_refl _) (by have := HT.out.2; omega) pl HZ.out ?_
               intro w2 hT2 hon2
               have hR2 := hon2.has hRr (by omega)
               have hD2 := hon2.has hDd (by omega)
               have hb2 := hb.then_only hon2 (by have := HS.out; omega)
               clear hTt hRr hDd hb hon2)
            | (go_at_call 91
               refine (ST'.out _ hT2 hD2).mono ?_
               rintro e w3 ⟨l', rfl, hT3, hwl, hll, hnl, hon3⟩
               rw [HDEC.out]
               have HT3 : Keep (Words l' ∧ l'.length = L) := ⟨hwl, hll⟩
               have HN3 : Keep (num l' = num (R'.drop i) - Q * M) := ⟨hnl PQ.out.2.2.1⟩
               have hR3 := hon3.has hR2 (by omega)
               have hD3 := hon3.has hD2 (by omega)
               have hb3 := hb2.then_only hon3 (by have := HS.out; omega)
               have f2 := True.intro
               clear hT2 hR2 hD2 hb2 hon3 hwl hll hnl))
          have pe := part_left HR.out.1 HR.out.2.1 hiN HT3.out.1 (by rw [HL.out]; exact HT3.out.2) PZ.out HN3.out
          rw [HL.out] at pe
          have PE : Keep (Words (R'.take i ++ (l' ++ R'.drop (i + L))) ∧ (R'.take i ++ (l' ++ R'.drop (i + L))).length = N ∧ num (R'.take i ++ (l' ++ R'.drop (i + L))) % M = T ∧ num ((R'.take i ++ (l' ++ R'.drop (i + L))).drop i) < M) := ⟨pe.1, pe.2.1, pe.2.2.1.trans HR.out.2.2.1, by rw [pe.2.2.2]; have := PQ.out.2.2.2; omega⟩
          have HKI : Keep ((i = 0 ∧ (i : Int) - 1 < 0) ∨ (0 < i ∧ (i : Int) - 1 = (i : Int) - 1)) := ⟨by omega⟩
          clear pe
          go_roundg mg
          case measure => omega
          case rel => exact ⟨i, (i : Int) - 1, _, l', rfl, by omega, by omega, HKI, by omega, hR4, hD4, hT4, HT3, PE, hb4⟩
end Go.Proofs.YtpgphhinelljoaaDoor.Limb
