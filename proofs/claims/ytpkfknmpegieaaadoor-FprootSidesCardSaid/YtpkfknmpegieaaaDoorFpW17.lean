/-
  Own text. The contract of shortPow of package fp.
-/
import Derived.Test.YtpkfknmpegieaaaDoorFpW16
namespace Go.Proofs.YtpkfknmpegieaaaDoor.Fp
set_option linter.unusedVariables false
set_option linter.unusedSimpArgs false
open Go Go.RowKit Go.Proofs.YtpkfknmpegieaaaDoor.Reg Go.Proofs.YtpkfknmpegieaaaDoor.Base Go.Proofs.YtpkfknmpegieaaaDoor.Limb Go.Proofs.YtpkfknmpegieaaaDoor.Bits

theorem rd_cell0 {w : World} {B b off n : Nat} {k : IntKind} {xs : List Int} (h : Rd w B (some ⟨b, off, none⟩) n k xs) {j : Nat} (hj : j < n) {y : Int} (hy : nth xs j = y) : w.cell? ⟨b, off + j, none⟩ = some (.int k y) := by
  rw [← hy]
  exact rd_cell h (Below.refl B w) (Nat.le_refl _) hj
theorem wpList_free {P : Program} {ops : Array Oper} {Q : Exit → Act → World → Prop} {o : Oper} {rest : List Oper} {a : Act} {w : World} (hw : Region.wanted o (yielded ops a.tmps) = true) (h : wpList P ops Q ({ o with guard := none } :: rest) a w) : wpList P ops Q (o :: rest) a w := by
  unfold wpList at h ⊢
  rw [if_pos hw]
  rw [if_pos (by rfl)] at h
  exact h
def tab0 : List Int := [1, 0, 0, 0, 0, 0] ++ List.replicate 90 0
set_option maxRecDepth 100000 in
set_option maxHeartbeats 2000000 in
theorem shortPow_c (a : List Int) (hla : a.length = 6) (hwa : Words a) (A : Option Addr) (n c : Nat) (l : List Int) (B : Nat) (w : World) (hG : Glob w) (hr : Rd w B A n .u64 l) (hw : Words l) (hB : B ≤ w.heap.size) (hn : n ≤ 100000) : Calls Tryd.prog 66 #[.agg (vals .u64 a), .slice A n c] w fun e w' => e = .returned (.agg (vals .u64 (fe (pw (num a) (num l))))) ∧ Below w.heap.size w w' := by
  have LN : Keep _ := ⟨hr.len⟩
  have LW : Keep _ := ⟨hw⟩
  have LA : Keep _ := ⟨hla⟩
  have WA : Keep _ := ⟨hwa⟩
  clear hw hla hwa
  obtain ⟨x, hx⟩ : ∃ x, num a = x := ⟨_, rfl⟩
  have HX : Keep _ := ⟨hx⟩
  obtain ⟨S, hS⟩ : ∃ S, w.heap.size = S := ⟨_, rfl⟩
  have hA0 : Has ((w.alloc (.cells (vals .u64 a) 25)).alloc (.cells (vals .u64 Z6) 25)) S 25 (vals .u64 a) := (Has.new' _ hS.symm _ _).alloc _
  have hR0 : Has ((w.alloc (.cells (vals .u64 a) 25)).alloc (.cells (vals .u64 Z6) 25)) (S + 1) 25 (vals .u64 Z6) := Has.new' _ (by rw [World.size_alloc, hS]) _ _
  have hs0 : ((w.alloc (.cells (vals .u64 a) 25)).alloc (.cells (vals .u64 Z6) 25)).heap.size = S + 2 := by rw [World.size_alloc, World.size_alloc, hS]
  have hb0 : Below S w ((w.alloc (.cells (vals .u64 a) 25)).alloc (.cells (vals .u64 Z6) 25)) := by rw [← hS]; exact ((Below.refl _ _).alloc (Nat.le_refl _) _).alloc (by simp) _
  have hO0 : Has (((w.alloc (.cells (vals .u64 a) 25)).alloc (.cells (vals .u64 Z6) 25)).alloc (.cells (vals .u64 Z6) 25)) (S + 1 + 1) 25 (vals .u64 Z6) := Has.new' _ hs0.symm _ _
  have hA0' := hA0.alloc (.cells (vals .u64 Z6) 25)
  have hR0' := hR0.alloc (.cells (vals .u64 Z6) 25)
  have hb0' := hb0.alloc (by omega) (.cells (vals .u64 Z6) 25)
  have HS0 : Keep (S ≤ w.heap.size) := ⟨by omega⟩
  have HSS : Keep (∀ w', Below S w w' → S ≤ w'.heap.size) := ⟨fun w' hb => Nat.le_trans HS0.out hb.size⟩
  have HGG : Keep (∀ w', Below S w w' → Glob w') := ⟨fun w' hb => hG.keep (by rw [hS]; exact hb)⟩
  have HRD : Keep (∀ w', Below S w w' → Rd w' B A n .u64 l) := ⟨fun w' hb => hr.keep hb (by omega)⟩
  have HBS : Keep (B ≤ S) := ⟨by omega⟩
  rw [hx, hS]
  clear hr hG hB hx hA0 hR0 hb0 hs0
  go_enter Tryd.func66, Tryd.ntmps66
  go_wp2_with (first
    | (refine wpList_buildTo (by rfl) 25 #[(0, .const (.int .u64 1))] (by rfl) (some 13) (by rfl) (vals .u64 [1, 0, 0, 0, 0, 0]) (by kernel_rfl) ?_)
    | (have q1 := f1
       refine wpList_buildTo (by rfl) 84 #[(0, .tmp 14)] (by rfl) (some 15) (by rfl) (vals .u64 tab0) (by kernel_rfl) ?_)
    | (have q1 := f1
       refine wpList_load_row rfl 25 (.tmp 5) rfl (S + 1 + 1) rfl _ _ _ _ hO1.eq Tryd.underlying25 rfl (by kernel_rfl) ?_)
    | (have q1 := f1
       refine store_abs2 (by rfl) 84 (.tmp 6) (.tmp 15) (by rfl) (by rfl) w1.heap.size (vals .u64 tab0) (by rfl) (by rfl) 84 _ (Has.new _ _ _) (by kernel_rfl) (by kernel_rfl) (by kernel_rfl) ?_
       intro w2 hT2 hkeep hbg
       have hlt1 := hO1.lt
       have hO2 := hkeep _ _ _ (hO1.alloc _) (by omega)
       have hA2 := hkeep _ _ _ (hA1.alloc _) (by omega)
       have hR2 := hkeep _ _ _ (hR1.alloc _) (by omega)
       have hb2 := (hb1.alloc (HSS.out _ hb1) (.cells Tryd.zeroCells84 84)).trans (hbg.mono (by omega))
       clear hkeep hbg hO1 hA1 hR1 hb1)
    | (refine store_abs2 (by rfl) 25 (.tmp 5) (.tmp 13) (by rfl) (by rfl) (S + 1 + 1) (vals .u64 [1, 0, 0, 0, 0, 0]) (by rfl) (by rfl) 25 (vals .u64 Z6) hO0 (by kernel_rfl) (by rfl) vals_one ?_
       intro w1 hO1 hkeep hbg
       have f1 := True.intro
       have hA1 := hkeep _ _ _ hA0' (by omega)
       have hR1 := hkeep _ _ _ hR0' (by omega)
       have hb1 := hb0'.trans (hbg.mono (by omega))
       clear hkeep hbg hA0' hR0' hb0' hO0))
  obtain ⟨g6, hg6⟩ : ∃ g, w1.heap.size = g := ⟨_, rfl⟩
  rw [hg6] at hT2 hlt1 ⊢
  have nT : S + 1 + 1 < g6 := hlt1
  clear hg6 hlt1 f1
  go_loopg [7] 15 (fun (gk : Nat) vi wr => ∃ k T, k + gk = 16 ∧ 1 ≤ k ∧ vi = .int .i64 (k : Int) ∧ Keep (Pows x k T) ∧ Has wr g6 84 (vals .u64 T) ∧ Has wr S 25 (vals .u64 a) ∧ Has wr (S + 1) 25 (vals .u64 Z6) ∧ Has wr (S + 1 + 1) 25 (vals .u64 [1, 0, 0, 0, 0, 0]) ∧ Below S w wr)
  case atStart => exact ⟨1, tab0, rfl, Nat.le_refl _, rfl, ⟨Pows.none x⟩, hT2, hA2, hR2, hO2, hb2⟩
  case round =>
    clear hT2 hA2 hR2 hO2 hb2
    obtain ⟨k, T, hk, hk1, rfl, HT, hT, hA, hR, hO, hb⟩ := hrel
    rcases gk with _ | m
    · obtain rfl : k = 16 := by omega
      have HE0 : Keep ([1, 0, 0, 0, 0, 0] = fe (pw x (num l / tp (64 * n)))) := ⟨by
        have hb := num_bounds LW.out
        rw [LN.out] at hb
        rw [tp_wp, Int.ediv_eq_zero_of_lt hb.1 hb.2, pw_zero, fe_one]⟩
      clear hA hk hk1
      go_wp2_with (first
        | (refine wpList_load_row rfl 25 (.tmp 5) rfl (S + 1 + 1) rfl _ _ _ _ hO.eq Tryd.underlying25 rfl (by kernel_rfl) ?_)
        | (refine store_abs2 (by rfl) 25 (.tmp 8) (.tmp 28) (by rfl) (by rfl) wr.heap.size (vals .u64 [1, 0, 0, 0, 0, 0]) (by rfl) (by rfl) 25 (vals .u64 Z6) (Has.new' _ rfl _ _) (by kernel_rfl) (by rfl) vals_one ?_
           intro w5 hP5 hkeep hbg
           have hltT := hT.lt
           have hltO := hO.lt
           rw [HE0.out] at hP5
           have hbe := ((Below.refl wr.heap.size wr).alloc (Nat.le_refl _) (.cells (vals .u64 Z6) 25)).trans hbg
           have hT5 := hT.keep hbe
           have hR5 := hR.keep hbe
           have hO5 := hO.keep hbe
           have hb5 := hb.trans (hbe.mono (HSS.out _ hb))
           clear hkeep hbg hbe hT hR hO hb))
      obtain ⟨g8, hg8⟩ : ∃ g, wr.heap.size = g := ⟨_, rfl⟩
      rw [hg8] at hltT hltO hP5 ⊢
      clear hg8
      go_loopg [9] n (fun (gk : Nat) vi wr => gk ≤ n ∧ vi = .int .i64 ((gk : Int) - 1) ∧ Has wr g8 25 (vals .u64 (fe (pw x (num l / tp (64 * gk))))) ∧ Has wr g6 84 (vals .u64 T) ∧ Has wr (S + 1) 25 (vals .u64 Z6) ∧ Has wr (S + 1 + 1) 25 (vals .u64 [1, 0, 0, 0, 0, 0]) ∧ Below S w wr)
      case atStart => exact ⟨Nat.le_refl _, by go_num, hP5, hT5, hR5, hO5, hb5⟩
      case round =>
        clear hP5 hT5 hR5 hO5 hb5
        obtain ⟨hk, rfl, hP, hT, hR, hO, hb⟩ := hrel
        rcases gk with _ | i
        · obtain ⟨o, ho⟩ : ∃ o, fe (pw x (num l / tp (64 * 0))) = o := ⟨_, rfl⟩
          rw [ho] at hP
          have OL : Keep (o.length = 6) := ⟨ho ▸ fe_len _⟩
          have FIN : Keep (o = fe (pw x (num l))) := ⟨by rw [← ho, Nat.mul_zero, tp_zero, Int.ediv_one]⟩
          clear ho
          go_wp2_with (first
            | (refine wpList_load_row rfl 25 (.tmp 8) rfl g8 rfl _ _ _ _ hP.eq Tryd.underlying25 rfl (by rw [vals_size, OL.out]; kernel_rfl) ?_)
            | (refine wpList_store_rowTo rfl 25 (.tmp 4) (.tmp 66) rfl rfl (S + 1) (vals .u64 o) rfl rfl _ _ hR.eq (by rw [vals_size, OL.out]; kernel_rfl) (by rw [vals_size, vals_size, OL.out]; rfl) vals_one ?_))
          refine bodyPost_ret (v := .agg (vals .u64 o)) (results_cell_row rfl _ _ (S + 1) _ _ _ _ rfl (hR.row _).eq Tryd.underlying25 rfl (by rw [vals_size, OL.out]; kernel_rfl)) rfl ⟨ret_eq (by rw [FIN.out]), below_row hb (by omega) _⟩
        · have e1 : ((i + 1 : Nat) : Int) - 1 = (i : Int) := by omega
          rw [e1]
          clear e1
          obtain ⟨y, hy⟩ : ∃ y, nth l i = y := ⟨_, rfl⟩
          have by' : 0 ≤ y ∧ y ≤ 18446744073709551615 := hy ▸ LW.out i
          obtain ⟨b1, o1, rfl, hlb1, hc1⟩ := (HRD.out _ hb).at_ (by omega)
          have HC : Keep (∀ w', Below S w w' → w'.cell? ⟨b1, o1 + i, none⟩ = some (.int .u64 y)) := ⟨fun w' hb' => rd_cell0 (HRD.out _ hb') (by omega) hy⟩
          have HY : Keep _ := ⟨hy⟩
          clear hc1 hy
          go_wp2
          go_loopg [10] 16 (fun (gk2 : Nat) vi wr => gk2 ≤ 16 ∧ vi = .int .i64 (4 * (gk2 : Int) - 4) ∧ Has wr g8 25 (vals .u64 (fe (pw x (num l / tp (64 * i + 4 * gk2))))) ∧ Has wr g6 84 (vals .u64 T) ∧ Has wr (S + 1) 25 (vals .u64 Z6) ∧ Has wr (S + 1 + 1) 25 (vals .u64 [1, 0, 0, 0, 0, 0]) ∧ Below S w wr)
          case atStart => exact ⟨Nat.le_refl _, by rfl, hP, hT, hR, hO, hb⟩
          case round =>
            clear hP hT hR hO hb
            obtain ⟨hk2, rfl, hP, hT, hR, hO, hb⟩ := hrel
            rcases gk with _ | k
            · rw [Nat.mul_zero, Nat.add_zero] at hP
              have e0 : 4 * ((0 : Nat) : Int) - 4 = -4 := by decide
              rw [e0]
              go_wp2
              go_roundg i
              case measure => omega
              case rel => exact ⟨by omega, by go_num, hP, hT, hR, hO, hb⟩
            · obtain ⟨sh, hsh⟩ : ∃ sh, 4 * k = sh := ⟨_, rfl⟩
              have e1 : 4 * ((k + 1 : Nat) : Int) - 4 = (sh : Int) := by omega
              rw [e1]
              rw [show 64 * i + 4 * (k + 1) = 64 * i + (sh + 4) by omega] at hP
              clear e1
              have hdig := num_digit LW.out (i := i) (s := sh) (by rw [LN.out]; omega) (by omega)
              obtain ⟨E, hE⟩ : ∃ E, num l / tp (64 * i + (sh + 4)) = E := ⟨_, rfl⟩
              have h0 : 0 ≤ E := hE ▸ shift_nonneg LW.out _
              have hsb := shr_bounds by'.1 by'.2 sh
              rw [hE] at hP
              rw [hE, HY.out] at hdig
              obtain ⟨q, hq⟩ : ∃ q, y / 2 ^ sh = q := ⟨_, rfl⟩
              rw [hq] at hdig hsb
              obtain ⟨d, hd⟩ : ∃ d : Nat, q % 16 = (d : Int) := Int.eq_ofNat_of_zero_le (Int.emod_nonneg _ (by decide))
              have hd16 : d < 16 := by omega
              have hdt : q.tmod 16 = (d : Int) := by rw [Int.tmod_eq_emod_of_nonneg hsb.1, hd]
              rw [hd] at hdig
              have HE : Keep (0 ≤ E ∧ num l / tp (64 * i + sh) = 16 * E + (d : Int)) := ⟨h0, hdig⟩
              have hC := HC.out _ hb
              have QK : Keep (y / 2 ^ sh = q ∧ q % 16 = (d : Int) ∧ q.tmod 16 = (d : Int) ∧ sh = 4 * k ∧ 0 ≤ q ∧ q ≤ 18446744073709551615) := ⟨hq, hd, hdt, hsh.symm, hsb⟩
              clear hC hdig h0 hsb hE hq hd hdt
              go_wp2
              go_loopg [11] 4 (fun (gk3 : Nat) vi wr => ∃ j o, j + gk3 = 4 ∧ vi = .int .i64 (j : Int) ∧ Keep (fe (pw x (2 ^ j * E)) = o) ∧ Has wr g8 25 (vals .u64 o) ∧ Has wr g6 84 (vals .u64 T) ∧ Has wr (S + 1) 25 (vals .u64 Z6) ∧ Has wr (S + 1 + 1) 25 (vals .u64 [1, 0, 0, 0, 0, 0]) ∧ Below S w wr)
              case atStart => exact ⟨0, _, rfl, rfl, ⟨by rw [Int.pow_zero, Int.one_mul]⟩, hP, hT, hR, hO, hb⟩
              case round =>
                clear hP hT hR hO hb
                obtain ⟨j, o, hj, rfl, HO, hP, hT, hR, hO, hb⟩ := hrel
                have OL : Keep (o.length = 6 ∧ Words o) := ⟨HO.out ▸ fe_len _, HO.out ▸ fe_words _⟩
                have hgd := gd6
                rcases gk with _ | m
                · obtain rfl : j = 4 := by omega
                  have H16 : Keep (fe (pw x (16 * E)) = o) := ⟨by rw [← HO.out, show (2 : Int) ^ 4 = 16 by decide]⟩
                  clear HO
                  obtain ⟨hq, hd, hdt, hsh, hq0⟩ := QK.out
                  have hC := HC.out _ hb
                  have hs64 : sh < 64 := by omega
                  have hs60 : sh ≤ 63 := by omega
                  have hw2 : IntKind.u64.wrap 16 = 16 := by decide
                  rcases Nat.eq_zero_or_pos d with hz | hz
                  · subst hz
                    have hd0 : q % 16 = 0 := by omega
                    have hdt0 : q.tmod 16 = 0 := by rw [hdt]; rfl
                    have FIN : Keep (o = fe (pw x (num l / tp (64 * i + 4 * k)))) := ⟨by rw [← hsh, HE.out.2, ← H16.out]; congr 2; omega⟩
                    have hP0 := hP
                    have FINC : Keep _ := FIN
                    clear hd hdt hP0 FINC hsh
                    go_wp2_with (first | fail)
                    go_roundg k
                    case measure => omega
                    case rel => exact ⟨by omega, by go_num, by rw [← FIN.out]; exact hP, hT, hR, hO, hb⟩
                  · have hne : (d : Int) ≠ 0 := by omega
                    have hnb : ((d : Int) == 0) = false := by simpa using hne
                    have hnd : decide ((d : Int) = 0) = false := decide_eq_false hne
                    obtain ⟨ps, hps⟩ : ∃ p, fe (x ^ d) = p := ⟨_, rfl⟩
                    obtain ⟨qs, hqs⟩ : ∃ q, fe (pw x (num l / tp (64 * i + 4 * k))) = q := ⟨_, rfl⟩
                    have LQ : Keep (qs.length = 6) := ⟨hqs ▸ fe_len _⟩
                    have SEG : Keep (ps = (T.drop (d * 6)).take 6) := ⟨by rw [Nat.mul_comm, HT.out.row d (by omega), hps]⟩
                    have TL : Keep (d * 6 + 6 ≤ T.length) := ⟨by rw [HT.out.len]; omega⟩
                    have FIN : Keep (fe (num o * num ps) = qs) := ⟨by
                      rw [← hps, pow_digit (x := x) (E := 16 * E) (by have := HE.out.1; omega) rfl H16.out, ← HE.out.2, hsh, hqs]⟩
                    have HQS : Keep _ := ⟨hqs⟩
                    have ML : Keep (∀ w', Below wr.heap.size wr w' → Calls Tryd.prog 29 #[.agg (vals .u64 o), .agg (vals .u64 ps)] w' fun e w'' => e = .returned (.agg (vals .u64 qs)) ∧ Below w'.heap.size w' w'') := ⟨fun w' hb' => by
                      have := fpMul_c o OL.out.1 OL.out.2 ps (hps ▸ fe_len _) (hps ▸ fe_words _) w' (HGG.out _ (hb.trans (hb'.mono (HSS.out _ hb))))
                      rwa [FIN.out] at this⟩
                    have LP : Keep (ps.length = 6) := ⟨hps ▸ fe_len _⟩
                    clear hps hqs hsh
                    go_wp2_with (first | fail)
                    refine wp_fam 5 (by kernel_rfl) (by kernel_rfl) (fun I hI' fw hf hback => ?_)
                    simp only [List.take_succ_cons, List.take_zero, List.drop_succ_cons, List.drop_zero]
                    repeat (first
                      | (go_big_quiet_want
                         first
                         | refine quiet_load_seg 25 (.tmp 63) (by rfl) g6 (d * 6) 6 (by rfl) 84 .u64 T ps _ (fun w' ⟨i, hi⟩ => by rw [hi]; exact hT.keep (hf i)) Tryd.underlying25 rfl (by kernel_rfl) SEG.out TL.out ?_
                         | refine quiet_load_seg 25 (.tmp 8) (by rfl) g8 0 6 (by rfl) 25 .u64 o o _ (fun w' ⟨i, hi⟩ => by rw [hi]; exact hP.keep (hf i)) Tryd.underlying25 rfl (by kernel_rfl) (by rw [List.drop_zero, take_all OL.out.1]) (by rw [OL.out.1]; omega) ?_
                         simp only [Act.put, List.setIfInBounds_toArray, List.set_cons_zero, List.set_cons_succ]
                         go_big_quiet_on)
                      | go_big_quiet_step (first | fail | (go_at_call 29; with_reducible exact calls_fam hf hback (ML.out _ (hf _)))))
                    refine wpQuiet_nil ?_
                    intro w3 hq3
                    have hP3 := hP.keep hq3
                    have hT3 := hT.keep hq3
                    have hR3 := hR.keep hq3
                    have hO3 := hO.keep hq3
                    have hb3 := hb.trans (hq3.mono (HSS.out _ hb))
                    clear hf hback hq3 hP hT hR hO hb hC
                    go_wp2_with (refine store_abs2 (by rfl) 25 (.tmp 8) (.tmp 65) (by rfl) (by rfl) g8 (vals .u64 qs) (by rfl) (by rfl) 25 (vals .u64 o) hP3 (by rw [vals_size, LQ.out]; kernel_rfl) (by rw [vals_size, vals_size, LQ.out, OL.out.1]) vals_one ?_
                                 intro w4 hP4 hkeep hbg
                                 rw [← HQS.out] at hP4
                                 have hT4 := hkeep _ _ _ hT3 (by omega)
                                 have hR4 := hkeep _ _ _ hR3 (by omega)
                                 have hO4 := hkeep _ _ _ hO3 (by omega)
                                 have hb4 := hb3.trans (hbg.mono (by omega))
                                 clear hkeep hbg hP3 hT3 hR3 hO3 hb3)
                    go_roundg k
                    case measure => omega
                    case rel => exact ⟨by omega, by go_num, hP4, hT4, hR4, hO4, hb4⟩
                · have hj4 : decide ((j : Int) < 4) = true := decide_eq_true (by omega)
                  by_cases h1 : o = [1, 0, 0, 0, 0, 0]
                  · subst h1
                    have E1 := eq6 [1, 0, 0, 0, 0, 0] rfl
                    have H16 : Keep (fe (pw x (16 * E)) = [1, 0, 0, 0, 0, 0]) := ⟨by
                      have h2 : (0 : Int) ≤ 2 ^ j * E := Int.mul_nonneg (Int.le_of_lt (Int.pow_pos (by omega))) HE.out.1
                      have h3 := pow_ones h2 (HO.out.trans fe_one.symm) (m + 1)
                      rw [← Int.mul_assoc, ← Int.pow_add, show m + 1 + j = 4 by omega, show (2 : Int) ^ 4 = 16 by decide] at h3
                      rw [h3, fe_one]⟩
                    clear HO
                    obtain ⟨hq, hd, hdt, hsh, hq0⟩ := QK.out
                    have hC := HC.out _ hb
                    have hs64 : sh < 64 := by omega
                    have hs60 : sh ≤ 63 := by omega
                    have hw2 : IntKind.u64.wrap 16 = 16 := by decide
                    rcases Nat.eq_zero_or_pos d with hz | hz
                    · subst hz
                      have hd0 : q % 16 = 0 := by omega
                      have hdt0 : q.tmod 16 = 0 := by rw [hdt]; rfl
                      have FIN : Keep ([1, 0, 0, 0, 0, 0] = fe (pw x (num l / tp (64 * i + 4 * k)))) := ⟨by rw [← hsh, HE.out.2, ← H16.out]; congr 2; omega⟩
                      have hP0 := hP
                      have FINC : Keep _ := FIN
                      clear hd hdt hP0 FINC hsh
                      go_wp2_with (first
                        | (refine wpList_free (by rfl) ?_; refine wpList_load_row rfl 25 (.tmp 8) rfl g8 rfl _ _ _ _ hP.eq Tryd.underlying25 rfl (by first | kernel_rfl | (rw [vals_size, OL.out.1]; kernel_rfl)) ?_; dsimp only; simp only [Act.put, List.setIfInBounds_toArray, List.set_cons_zero, List.set_cons_succ])
                        | (refine wpList_free (by rfl) ?_; refine wpList_load_row rfl 25 (.tmp 5) rfl (S + 1 + 1) rfl _ _ _ _ hO.eq Tryd.underlying25 rfl (by kernel_rfl) ?_; dsimp only; simp only [Act.put, List.setIfInBounds_toArray, List.set_cons_zero, List.set_cons_succ]))
                      go_roundg k
                      case measure => omega
                      case rel => exact ⟨by omega, by go_num, by rw [← FIN.out]; exact hP, hT, hR, hO, hb⟩
                    · have hne : (d : Int) ≠ 0 := by omega
                      have hnb : ((d : Int) == 0) = false := by simpa using hne
                      have hnd : decide ((d : Int) = 0) = false := decide_eq_false hne
                      obtain ⟨ps, hps⟩ : ∃ p, fe (x ^ d) = p := ⟨_, rfl⟩
                      obtain ⟨qs, hqs⟩ : ∃ q, fe (pw x (num l / tp (64 * i + 4 * k))) = q := ⟨_, rfl⟩
                      have LQ : Keep (qs.length = 6) := ⟨hqs ▸ fe_len _⟩
                      have SEG : Keep (ps = (T.drop (d * 6)).take 6) := ⟨by rw [Nat.mul_comm, HT.out.row d (by omega), hps]⟩
                      have TL : Keep (d * 6 + 6 ≤ T.length) := ⟨by rw [HT.out.len]; omega⟩
                      have FIN : Keep (fe (num [1, 0, 0, 0, 0, 0] * num ps) = qs) := ⟨by
                        rw [← hps, pow_digit (x := x) (E := 16 * E) (by have := HE.out.1; omega) rfl H16.out, ← HE.out.2, hsh, hqs]⟩
                      have HQS : Keep _ := ⟨hqs⟩
                      have ML : Keep (∀ w', Below wr.heap.size wr w' → Calls Tryd.prog 29 #[.agg (vals .u64 [1, 0, 0, 0, 0, 0]), .agg (vals .u64 ps)] w' fun e w'' => e = .returned (.agg (vals .u64 qs)) ∧ Below w'.heap.size w' w'') := ⟨fun w' hb' => by
                        have := fpMul_c [1, 0, 0, 0, 0, 0] OL.out.1 OL.out.2 ps (hps ▸ fe_len _) (hps ▸ fe_words _) w' (HGG.out _ (hb.trans (hb'.mono (HSS.out _ hb))))
                        rwa [FIN.out] at this⟩
                      have LP : Keep (ps.length = 6) := ⟨hps ▸ fe_len _⟩
                      clear hps hqs hsh
                      go_wp2_with (first
                        | (refine wpList_free (by rfl) ?_; refine wpList_load_row rfl 25 (.tmp 8) rfl g8 rfl _ _ _ _ hP.eq Tryd.underlying25 rfl (by first | kernel_rfl | (rw [vals_size, OL.out.1]; kernel_rfl)) ?_; dsimp only; simp only [Act.put, List.setIfInBounds_toArray, List.set_cons_zero, List.set_cons_succ])
                        | (refine wpList_free (by rfl) ?_; refine wpList_load_row rfl 25 (.tmp 5) rfl (S + 1 + 1) rfl _ _ _ _ hO.eq Tryd.underlying25 rfl (by kernel_rfl) ?_; dsimp only; simp only [Act.put, List.setIfInBounds_toArray, List.set_cons_zero, List.set_cons_succ]))
                      refine wp_fam 5 (by kernel_rfl) (by kernel_rfl) (fun I hI' fw hf hback => ?_)
                      simp only [List.take_succ_cons, List.take_zero, List.drop_succ_cons, List.drop_zero]
                      repeat (first
                        | (go_big_quiet_want
                           first
                           | refine quiet_load_seg 25 (.tmp 63) (by rfl) g6 (d * 6) 6 (by rfl) 84 .u64 T ps _ (fun w' ⟨i, hi⟩ => by rw [hi]; exact hT.keep (hf i)) Tryd.underlying25 rfl (by kernel_rfl) SEG.out TL.out ?_
                           | refine quiet_load_seg 25 (.tmp 8) (by rfl) g8 0 6 (by rfl) 25 .u64 [1, 0, 0, 0, 0, 0] [1, 0, 0, 0, 0, 0] _ (fun w' ⟨i, hi⟩ => by rw [hi]; exact hP.keep (hf i)) Tryd.underlying25 rfl (by kernel_rfl) (by rw [List.drop_zero, take_all OL.out.1]) (by rw [OL.out.1]; omega) ?_
                           simp only [Act.put, List.setIfInBounds_toArray, List.set_cons_zero, List.set_cons_succ]
                           go_big_quiet_on)
                        | go_big_quiet_step (first | fail | (go_at_call 29; with_reducible exact calls_fam hf hback (ML.out _ (hf _)))))
                      refine wpQuiet_nil ?_
                      intro w3 hq3
                      have hP3 := hP.keep hq3
                      have hT3 := hT.keep hq3
                      have hR3 := hR.keep hq3
                      have hO3 := hO.keep hq3
                      have hb3 := hb.trans (hq3.mono (HSS.out _ hb))
                      clear hf hback hq3 hP hT hR hO hb hC
                      go_wp2_with (refine store_abs2 (by rfl) 25 (.tmp 8) (.tmp 65) (by rfl) (by rfl) g8 (vals .u64 qs) (by rfl) (by rfl) 25 (vals .u64 [1, 0, 0, 0, 0, 0]) hP3 (by rw [vals_size, LQ.out]; kernel_rfl) (by rw [vals_size, vals_size, LQ.out, OL.out.1]) vals_one ?_
                                   intro w4 hP4 hkeep hbg
                                   rw [← HQS.out] at hP4
                                   have hT4 := hkeep _ _ _ hT3 (by omega)
                                   have hR4 := hkeep _ _ _ hR3 (by omega)
                                   have hO4 := hkeep _ _ _ hO3 (by omega)
                                   have hb4 := hb3.trans (hbg.mono (by omega))
                                   clear hkeep hbg hP3 hT3 hR3 hO3 hb3)
                      go_roundg k
                      case measure => omega
                      case rel => exact ⟨by omega, by go_num, hP4, hT4, hR4, hO4, hb4⟩
                  · have E1 := eq6_ne o [1, 0, 0, 0, 0, 0] OL.out.1 rfl h1
                    obtain ⟨o2, ho2⟩ : ∃ o2, fe (num o * num o) = o2 := ⟨_, rfl⟩
                    have OL2 : Keep (o2.length = 6 ∧ fe (pw x (2 ^ (j + 1) * E)) = o2) := ⟨ho2 ▸ fe_len _, by
                      have h2 : (0 : Int) ≤ 2 ^ j * E := Int.mul_nonneg (Int.le_of_lt (Int.pow_pos (by omega))) HE.out.1
                      rw [← ho2, pow_square h2 HO.out, ← Int.mul_assoc, Int.pow_succ, Int.mul_comm 2]⟩
                    have ML : Keep (∀ w', Below S w w' → Calls Tryd.prog 29 #[.agg (vals .u64 o), .agg (vals .u64 o)] w' fun e w'' => e = .returned (.agg (vals .u64 o2)) ∧ Below w'.heap.size w' w'') := ⟨fun w' hb' => by
                      have := fpMul_c o OL.out.1 OL.out.2 o OL.out.1 OL.out.2 w' (HGG.out _ hb')
                      rwa [ho2] at this⟩
                    clear ho2 h1
                    go_wp2_with (first
                      | (refine wpList_free (by rfl) ?_; refine wpList_load_row rfl 25 (.tmp 8) rfl g8 rfl _ _ _ _ hP.eq Tryd.underlying25 rfl (by rw [vals_size, OL.out.1]; kernel_rfl) ?_; dsimp only; simp only [Act.put, List.setIfInBounds_toArray, List.set_cons_zero, List.set_cons_succ])
                      | (refine wpList_free (by rfl) ?_; refine wpList_load_row rfl 25 (.tmp 5) rfl (S + 1 + 1) rfl _ _ _ _ hO.eq Tryd.underlying25 rfl (by kernel_rfl) ?_; dsimp only; simp only [Act.put, List.setIfInBounds_toArray, List.set_cons_zero, List.set_cons_succ])
                      | (refine wpList_load_row rfl 25 (.tmp 8) rfl g8 rfl _ _ _ _ hP.eq Tryd.underlying25 rfl (by rw [vals_size, OL.out.1]; kernel_rfl) ?_)
                      | (refine store_abs2 (by rfl) 25 (.tmp 8) (.tmp 51) (by rfl) (by rfl) g8 (vals .u64 o2) (by rfl) (by rfl) 25 (vals .u64 o) hP1 (by rw [vals_size, OL2.out.1]; kernel_rfl) (by rw [vals_size, vals_size, OL2.out.1, OL.out.1]) vals_one ?_
                         intro w2 hP2 hkeep hbg
                         have hT2 := hkeep _ _ _ hT1 (by omega)
                         have hR2 := hkeep _ _ _ hR1 (by omega)
                         have hO2 := hkeep _ _ _ hO1 (by omega)
                         have hb2 := hb1.trans (hbg.mono (by omega))
                         clear hkeep hbg hP1 hT1 hR1 hO1 hb1)
                      | (go_at_call 29
                         refine (ML.out _ hb).mono ?_
                         rintro e w1 ⟨rfl, hq⟩
                         have hP1 := hP.keep hq
                         have hT1 := hT.keep hq
                         have hR1 := hR.keep hq
                         have hO1 := hO.keep hq
                         have hb1 := hb.trans (hq.mono (HSS.out _ hb))
                         clear hq hP hT hR hO hb))
                    go_roundg m
                    case measure => omega
                    case rel => exact ⟨j + 1, o2, by omega, by go_num, ⟨OL2.out.2⟩, hP2, hT2, hR2, hO2, hb2⟩
    · obtain ⟨i, rfl⟩ : ∃ i, k = i + 1 := ⟨k - 1, by omega⟩
      have hi15 : i < 15 := by omega
      have e1 : ((i + 1 : Nat) : Int) - 1 = (i : Int) := by omega
      obtain ⟨ps, hps⟩ : ∃ p, fe (x ^ i) = p := ⟨_, rfl⟩
      obtain ⟨qs, hqs⟩ : ∃ q, fe (x ^ (i + 1)) = q := ⟨_, rfl⟩
      have LQ : Keep (qs.length = 6) := ⟨hqs ▸ fe_len _⟩
      have SEG : Keep (ps = (T.drop (i * 6)).take 6) := ⟨by rw [Nat.mul_comm, HT.out.row i (by omega), hps]⟩
      have TL : Keep (i * 6 + 6 ≤ T.length ∧ (i + 1) * 6 + qs.length ≤ T.length) := ⟨by rw [HT.out.len, LQ.out]; omega⟩
      have HT' : Keep (Pows x (i + 1 + 1) (T.take ((i + 1) * 6) ++ (qs ++ T.drop ((i + 1) * 6 + qs.length)))) := ⟨by rw [Nat.mul_comm (i + 1) 6]; exact HT.out.more (by omega) hqs⟩
      have ML : Keep (∀ w', Below wr.heap.size wr w' → Calls Tryd.prog 29 #[.agg (vals .u64 ps), .agg (vals .u64 a)] w' fun e w'' => e = .returned (.agg (vals .u64 qs)) ∧ Below w'.heap.size w' w'') := ⟨fun w' hb' => by
        have := fpMul_c ps (hps ▸ fe_len _) (hps ▸ fe_words _) a LA.out WA.out w' (HGG.out _ (hb.trans (hb'.mono (HSS.out _ hb))))
        rwa [← hps, pow_next HX.out, hqs, hps] at this⟩
      clear hps hqs
      go_wp2
      refine wp_fam 8 (by kernel_rfl) (by kernel_rfl) (fun I hI' fw hf hback => ?_)
      simp only [List.take_succ_cons, List.take_zero, List.drop_succ_cons, List.drop_zero]
      repeat (first
        | (go_big_quiet_want
           first
           | refine quiet_load_seg 25 (.tmp 23) (by rfl) g6 (i * 6) 6 (by rfl) 84 .u64 T ps _ (fun w' ⟨i, hi⟩ => by rw [hi]; exact hT.keep (hf i)) Tryd.underlying25 rfl (by kernel_rfl) SEG.out TL.out.1 ?_
           | refine quiet_load_seg 25 (.tmp 2) (by rfl) S 0 6 (by rfl) 25 .u64 a a _ (fun w' ⟨i, hi⟩ => by rw [hi]; exact hA.keep (hf i)) Tryd.underlying25 rfl (by kernel_rfl) (by rw [List.drop_zero, take_all LA.out]) (by rw [LA.out]; omega) ?_
           simp only [Act.put, List.setIfInBounds_toArray, List.set_cons_zero, List.set_cons_succ]
           go_big_quiet_on)
        | go_big_quiet_step (first | fail | (go_at_call 29; with_reducible exact calls_fam hf hback (ML.out _ (hf _)))))
      refine wpQuiet_nil ?_
      intro w3 hq
      have hT3 := hT.keep hq
      have hA3 := hA.keep hq
      have hR3 := hR.keep hq
      have hO3 := hO.keep hq
      have hb3 := hb.trans (hq.mono (HSS.out _ hb))
      clear hf hback hq hT hA hR hO hb
      refine store_seg (by rfl) 25 (.tmp 27) (.tmp 26) (by rfl) (by rfl) g6 ((i + 1) * 6) .u64 qs (by rfl) (by rfl) 84 T hT3 (by rw [LQ.out]; kernel_rfl) TL.out.2 _ rfl ?_
      intro w4 hT4 hon
      have hA4 := hon.has hA3 (by omega)
      have hR4 := hon.has hR3 (by omega)
      have hO4 := hon.has hO3 (by omega)
      have hb4 := hb3.trans (hon.below (B := S) (by omega) (HSS.out _ hb3))
      clear hT3 hA3 hR3 hO3 hb3 hon
      go_wp2
      go_roundg m
      case measure => omega
      case rel => exact ⟨i + 1 + 1, _, by omega, by omega, by go_num, HT', hT4, hA4, hR4, hO4, hb4⟩
end Go.Proofs.YtpkfknmpegieaaaDoor.Fp
