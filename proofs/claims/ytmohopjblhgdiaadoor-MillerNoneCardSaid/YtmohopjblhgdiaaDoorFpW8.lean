/-
  Own text. The contract of Mul of package fp.
-/
import Derived.Test.YtmohopjblhgdiaaDoorFpW7
namespace Go.Proofs.YtmohopjblhgdiaaDoor.Fp
set_option linter.unusedVariables false
set_option linter.unusedSimpArgs false
open Go Go.RowKit Go.Proofs.YtmohopjblhgdiaaDoor.Reg Go.Proofs.YtmohopjblhgdiaaDoor.Base Go.Proofs.YtmohopjblhgdiaaDoor.Limb Go.Proofs.YtmohopjblhgdiaaDoor.Bits

theorem set_mid {P o r : List Int} {p : Nat} {c v : Int} (hp : P.length = p) (h : o.length = 6) : (P ++ (o ++ c :: r)).set (p + 6) v = P ++ (o ++ v :: r) := by
  rw [List.set_append_right _ _ (by omega), show p + 6 - P.length = 6 by omega, set_six h]
theorem nth_mid {P o r : List Int} {p : Nat} {c : Int} (hp : P.length = p) (h : o.length = 6) : nth (P ++ (o ++ c :: r)) (p + 6) = c := by
  rw [nth_append_right _ _ _ (by omega), show p + 6 - P.length = 6 by omega, nth_append_right _ _ _ (by omega), show 6 - o.length = 0 by omega]
  rfl

set_option maxRecDepth 100000 in
set_option maxHeartbeats 2000000 in
theorem mulStep_c (g gb : Nat) (t tb : TypeId) (p : Nat) (hp6 : p < 6) (P a r b : List Int) (c x : Int) (hp : P.length = p) (hla : a.length = 6) (hwa : Words a) (hlb : b.length = 6) (hwb : Words b) (hx : 0 ≤ x ∧ x ≤ 18446744073709551615) (hne : g ≠ gb) (w : World) (hA : Has w g t (vals .u64 (P ++ (a ++ c :: r)))) (hB : Has w gb tb (vals .u64 b)) :
    Calls Tryd.prog 56 #[.int .i64 (p : Int), .int .u64 x, .pointer (some ⟨g, 0, none⟩), .pointer (some ⟨gb, 0, none⟩)] w fun e w' => e = .returned (.tuple #[]) ∧ ∃ (o : List Int) (cy : Int), Has w' g t (vals .u64 (P ++ (o ++ cy :: r))) ∧ o.length = 6 ∧ Words o ∧ num o + wp 6 * cy = num a + x * num b ∧ 0 ≤ cy ∧ cy ≤ 18446744073709551615 ∧ Only g w w' := by
  have HP : Keep _ := ⟨hp⟩
  have LA : Keep _ := ⟨hla⟩
  have WA : Keep _ := ⟨hwa⟩
  have LB : Keep _ := ⟨hlb⟩
  have WB : Keep _ := ⟨hwb⟩
  have XX : Keep _ := ⟨hx⟩
  have hat : ∀ (w : World) (off c : Nat), (Instr.arrayAt 24 (.slice (some ⟨g, off, none⟩) 6 c)).run Tryd.prog w = .ok (.pointer (some ⟨g, off, none⟩)) w := fun w off c => arrayAt_run Tryd.underlying24 (by omega)
  clear hp hla hwa hlb hwb hx
  match p, hp6 with
  | 0, _ =>
    go_enter Tryd.func56, Tryd.ntmps56
    go_wp2_with (go_at_call 57
                 refine (fpTimes_c g 0 gb t tb P a (c :: r) b HP.out LA.out WA.out LB.out WB.out x XX.out hne _ hA hB).mono ?_
                 rintro e w2 ⟨o, cy, rfl, hA2, hlo, hwo, hno, hc0, hc1, ho⟩
                 have HNO : Keep _ := ⟨And.intro hlo (And.intro hwo (And.intro hno (And.intro hc0 hc1)))⟩
                 have co : w2.cell? ⟨g, 6, none⟩ = some (.int .u64 c) := by
                   have := hA2.val (i := 0 + 6) (by rw [List.length_append, List.length_append, HP.out, hlo]; simp <;> omega)
                   rwa [nth_mid HP.out hlo] at this
                 have zo := hA2.frozen 6
                 have hA3 := hA2.set_ (0 + 6) (.int .u64 cy)
                 rw [vals_set, set_mid HP.out hlo] at hA3
                 have hO3 := ho.set_ (p := ⟨g, 6, none⟩) rfl (.int .u64 cy)
                 clear hA hB hlo hwo hno hc0 hc1 ho)
    go_end0
    exact ⟨rfl, o, cy, hA3, HNO.out.1, HNO.out.2.1, HNO.out.2.2.1, HNO.out.2.2.2.1, HNO.out.2.2.2.2, hO3⟩
  | 1, _ =>
    go_enter Tryd.func56, Tryd.ntmps56
    go_wp2_with (go_at_call 57
                 refine (fpTimes_c g 1 gb t tb P a (c :: r) b HP.out LA.out WA.out LB.out WB.out x XX.out hne _ hA hB).mono ?_
                 rintro e w2 ⟨o, cy, rfl, hA2, hlo, hwo, hno, hc0, hc1, ho⟩
                 have HNO : Keep _ := ⟨And.intro hlo (And.intro hwo (And.intro hno (And.intro hc0 hc1)))⟩
                 have co : w2.cell? ⟨g, 7, none⟩ = some (.int .u64 c) := by
                   have := hA2.val (i := 1 + 6) (by rw [List.length_append, List.length_append, HP.out, hlo]; simp <;> omega)
                   rwa [nth_mid HP.out hlo] at this
                 have zo := hA2.frozen 7
                 have hA3 := hA2.set_ (1 + 6) (.int .u64 cy)
                 rw [vals_set, set_mid HP.out hlo] at hA3
                 have hO3 := ho.set_ (p := ⟨g, 7, none⟩) rfl (.int .u64 cy)
                 clear hA hB hlo hwo hno hc0 hc1 ho)
    go_end0
    exact ⟨rfl, o, cy, hA3, HNO.out.1, HNO.out.2.1, HNO.out.2.2.1, HNO.out.2.2.2.1, HNO.out.2.2.2.2, hO3⟩
  | 2, _ =>
    go_enter Tryd.func56, Tryd.ntmps56
    go_wp2_with (go_at_call 57
                 refine (fpTimes_c g 2 gb t tb P a (c :: r) b HP.out LA.out WA.out LB.out WB.out x XX.out hne _ hA hB).mono ?_
                 rintro e w2 ⟨o, cy, rfl, hA2, hlo, hwo, hno, hc0, hc1, ho⟩
                 have HNO : Keep _ := ⟨And.intro hlo (And.intro hwo (And.intro hno (And.intro hc0 hc1)))⟩
                 have co : w2.cell? ⟨g, 8, none⟩ = some (.int .u64 c) := by
                   have := hA2.val (i := 2 + 6) (by rw [List.length_append, List.length_append, HP.out, hlo]; simp <;> omega)
                   rwa [nth_mid HP.out hlo] at this
                 have zo := hA2.frozen 8
                 have hA3 := hA2.set_ (2 + 6) (.int .u64 cy)
                 rw [vals_set, set_mid HP.out hlo] at hA3
                 have hO3 := ho.set_ (p := ⟨g, 8, none⟩) rfl (.int .u64 cy)
                 clear hA hB hlo hwo hno hc0 hc1 ho)
    go_end0
    exact ⟨rfl, o, cy, hA3, HNO.out.1, HNO.out.2.1, HNO.out.2.2.1, HNO.out.2.2.2.1, HNO.out.2.2.2.2, hO3⟩
  | 3, _ =>
    go_enter Tryd.func56, Tryd.ntmps56
    go_wp2_with (go_at_call 57
                 refine (fpTimes_c g 3 gb t tb P a (c :: r) b HP.out LA.out WA.out LB.out WB.out x XX.out hne _ hA hB).mono ?_
                 rintro e w2 ⟨o, cy, rfl, hA2, hlo, hwo, hno, hc0, hc1, ho⟩
                 have HNO : Keep _ := ⟨And.intro hlo (And.intro hwo (And.intro hno (And.intro hc0 hc1)))⟩
                 have co : w2.cell? ⟨g, 9, none⟩ = some (.int .u64 c) := by
                   have := hA2.val (i := 3 + 6) (by rw [List.length_append, List.length_append, HP.out, hlo]; simp <;> omega)
                   rwa [nth_mid HP.out hlo] at this
                 have zo := hA2.frozen 9
                 have hA3 := hA2.set_ (3 + 6) (.int .u64 cy)
                 rw [vals_set, set_mid HP.out hlo] at hA3
                 have hO3 := ho.set_ (p := ⟨g, 9, none⟩) rfl (.int .u64 cy)
                 clear hA hB hlo hwo hno hc0 hc1 ho)
    go_end0
    exact ⟨rfl, o, cy, hA3, HNO.out.1, HNO.out.2.1, HNO.out.2.2.1, HNO.out.2.2.2.1, HNO.out.2.2.2.2, hO3⟩
  | 4, _ =>
    go_enter Tryd.func56, Tryd.ntmps56
    go_wp2_with (go_at_call 57
                 refine (fpTimes_c g 4 gb t tb P a (c :: r) b HP.out LA.out WA.out LB.out WB.out x XX.out hne _ hA hB).mono ?_
                 rintro e w2 ⟨o, cy, rfl, hA2, hlo, hwo, hno, hc0, hc1, ho⟩
                 have HNO : Keep _ := ⟨And.intro hlo (And.intro hwo (And.intro hno (And.intro hc0 hc1)))⟩
                 have co : w2.cell? ⟨g, 10, none⟩ = some (.int .u64 c) := by
                   have := hA2.val (i := 4 + 6) (by rw [List.length_append, List.length_append, HP.out, hlo]; simp <;> omega)
                   rwa [nth_mid HP.out hlo] at this
                 have zo := hA2.frozen 10
                 have hA3 := hA2.set_ (4 + 6) (.int .u64 cy)
                 rw [vals_set, set_mid HP.out hlo] at hA3
                 have hO3 := ho.set_ (p := ⟨g, 10, none⟩) rfl (.int .u64 cy)
                 clear hA hB hlo hwo hno hc0 hc1 ho)
    go_end0
    exact ⟨rfl, o, cy, hA3, HNO.out.1, HNO.out.2.1, HNO.out.2.2.1, HNO.out.2.2.2.1, HNO.out.2.2.2.2, hO3⟩
  | 5, _ =>
    go_enter Tryd.func56, Tryd.ntmps56
    go_wp2_with (go_at_call 57
                 refine (fpTimes_c g 5 gb t tb P a (c :: r) b HP.out LA.out WA.out LB.out WB.out x XX.out hne _ hA hB).mono ?_
                 rintro e w2 ⟨o, cy, rfl, hA2, hlo, hwo, hno, hc0, hc1, ho⟩
                 have HNO : Keep _ := ⟨And.intro hlo (And.intro hwo (And.intro hno (And.intro hc0 hc1)))⟩
                 have co : w2.cell? ⟨g, 11, none⟩ = some (.int .u64 c) := by
                   have := hA2.val (i := 5 + 6) (by rw [List.length_append, List.length_append, HP.out, hlo]; simp <;> omega)
                   rwa [nth_mid HP.out hlo] at this
                 have zo := hA2.frozen 11
                 have hA3 := hA2.set_ (5 + 6) (.int .u64 cy)
                 rw [vals_set, set_mid HP.out hlo] at hA3
                 have hO3 := ho.set_ (p := ⟨g, 11, none⟩) rfl (.int .u64 cy)
                 clear hA hB hlo hwo hno hc0 hc1 ho)
    go_end0
    exact ⟨rfl, o, cy, hA3, HNO.out.1, HNO.out.2.1, HNO.out.2.2.1, HNO.out.2.2.2.1, HNO.out.2.2.2.2, hO3⟩

/-- One word more. -/
theorem mul_round {a b o o' : List Int} {k : Nat} {cy x : Int} (hk : k < 6) (hlo : o.length = k + 6) (hn : num o = low a k * num b) (hx : nth a k = x) (hl' : o'.length = 6) (he : num o' + wp 6 * cy = num (o.drop k) + x * num b) :
    num (o.take k ++ (o' ++ [cy])) = low a (k + 1) * num b ∧ (o.take k ++ (o' ++ [cy])).length = k + 1 + 6 := by
  have hlt : (o.take k).length = k := by simp; omega
  refine ⟨?_, by simp [hlt, hl']⟩
  have h1 := num_append (o.take k) (o.drop k)
  rw [List.take_append_drop, hlt] at h1
  rw [num_append, hlt, num_snoc, hl', he, low_succ, hx, Int.add_mul, ← hn, h1]
  grind
theorem zeros_cons (k : Nat) (h : k < 6) : List.replicate (6 - k) (0 : Int) = 0 :: List.replicate (5 - k) 0 := by
  rw [show 6 - k = (5 - k) + 1 by omega, List.replicate_succ]

set_option maxRecDepth 100000 in
set_option maxHeartbeats 2000000 in
theorem fpMul_c (a : List Int) (hla : a.length = 6) (hwa : Words a) (b : List Int) (hlb : b.length = 6) (hwb : Words b) (w : World) (hG : Glob w) : Calls Tryd.prog 30 #[.agg (vals .u64 a), .agg (vals .u64 b)] w fun e w' => e = .returned (.agg (vals .u64 (fe (num a * num b)))) ∧ Below w.heap.size w w' := by
  obtain ⟨o0, ho0⟩ : ∃ o, fe (num a * num b) = o := ⟨_, rfl⟩
  have OL : Keep (o0.length = 6) := ⟨by rw [← ho0]; exact fe_len _⟩
  have e6 : low a 6 = num a := by rw [num, hla]
  have HO : Keep (fe (low a 6 * num b) = o0) := ⟨by rw [e6, ho0]⟩
  clear e6
  have LA : Keep _ := ⟨hla⟩
  have WA : Keep _ := ⟨hwa⟩
  have LB : Keep _ := ⟨hlb⟩
  have WB : Keep _ := ⟨hwb⟩
  rw [ho0]
  obtain ⟨S, hS⟩ : ∃ S, w.heap.size = S := ⟨_, rfl⟩
  obtain ⟨w0, hw0⟩ : ∃ w0, (((w.alloc (.cells (vals .u64 a) 24)).alloc (.cells (vals .u64 b) 24)).alloc (.cells (vals .u64 Z6) 24)).alloc (.cells (vals .u64 (List.replicate 12 0)) 69) = w0 := ⟨_, rfl⟩
  have hA0 : Has w0 S 24 (vals .u64 a) := by rw [← hw0]; exact (((Has.new' _ hS.symm _ _).alloc _).alloc _).alloc _
  have hB0 : Has w0 (S + 1) 24 (vals .u64 b) := by rw [← hw0]; exact ((Has.new' _ (by rw [World.size_alloc, hS]) _ _).alloc _).alloc _
  have hR0 : Has w0 (S + 2) 24 (vals .u64 Z6) := by rw [← hw0]; exact (Has.new' _ (by rw [World.size_alloc, World.size_alloc, hS]) _ _).alloc _
  have hW0 : Has w0 (S + 3) 69 (vals .u64 (List.replicate 12 0)) := by rw [← hw0]; exact Has.new' _ (by rw [World.size_alloc, World.size_alloc, World.size_alloc, hS]) _ _
  have hb0 : Below S w w0 := by rw [← hw0, ← hS]; exact ((((Below.refl _ _).alloc (Nat.le_refl _) _).alloc (by simp) _).alloc (by simp <;> omega) _).alloc (by simp <;> omega) _
  have HG0 : Keep (Glob w0) := ⟨hG.keep (by rw [hS]; exact hb0)⟩
  have HF : Keep (Free (S + 3)) := ⟨hG.free (by omega)⟩
  have HSS : Keep (∀ w', Below S w w' → S ≤ w'.heap.size) := ⟨fun w' hb => by have := hb.size; omega⟩
  clear hla hwa hlb hwb ho0 hG
  go_enter Tryd.func30, Tryd.ntmps30
  go_wp2
  change Code.wp _ _ _ _ ((((w.alloc (.cells (vals .u64 a) 24)).alloc (.cells (vals .u64 b) 24)).alloc (.cells (vals .u64 Z6) 24)).alloc (.cells (vals .u64 (List.replicate 12 0)) 69))
  rw [hw0]
  clear hw0
  go_loopw [10] (fun vi wr => ∃ (k : Nat) (o : List Int), k ≤ 6 ∧ vi = .int .i64 k ∧ Keep (o.length = k + 6 ∧ Words o ∧ num o = low a k * num b) ∧ Has wr S 24 (vals .u64 a) ∧ Has wr (S + 1) 24 (vals .u64 b) ∧ Has wr (S + 2) 24 (vals .u64 Z6) ∧ Has wr (S + 3) 69 (vals .u64 (o ++ List.replicate (6 - k) 0)) ∧ Keep (Glob wr) ∧ Below S w wr) (fun vi _ => 6 - (intOf vi).toNat)
  case atStart => exact ⟨0, List.replicate 6 0, by omega, rfl, ⟨rfl, words_zeros 6, by rw [num_zeros, low_zero, Int.zero_mul]⟩, hA0, hB0, hR0, hW0, HG0, hb0⟩
  case round =>
    clear hA0 hB0 hR0 hW0 HG0 hb0
    obtain ⟨k, o, hk, rfl, HI, hA, hB, hR, hW, HG, hb⟩ := hrel
    by_cases hlt : k < 6
    · obtain ⟨x, hx⟩ : ∃ x, nth a k = x := ⟨_, rfl⟩
      have bx : 0 ≤ x ∧ x ≤ 18446744073709551615 := hx ▸ WA.out k
      have Q0 : Keep (∀ w', Below wr.heap.size wr w' → w'.cell? ⟨S, k, none⟩ = some (.int .u64 x)) := ⟨fun w' hb' => by rw [← hx]; exact (hA.keep hb').val (by rw [LA.out]; exact hlt)⟩
      have LT : Keep ((o.take k).length = k ∧ (o.drop k).length = 6 ∧ Words (o.drop k)) := ⟨by simp; have := HI.out.1; omega, by simp; have := HI.out.1; omega, words_drop HI.out.2.1 _⟩
      have hW' : Has wr (S + 3) 69 (vals .u64 (o.take k ++ (o.drop k ++ 0 :: List.replicate (5 - k) 0))) := by rw [← List.append_assoc, List.take_append_drop, ← zeros_cons k hlt]; exact hW
      have HX : Keep _ := ⟨hx⟩
      clear hx hW
      go_wp2
      refine wp_fam_all (by kernel_rfl) (by kernel_rfl) (fun I hI' fw hf hback => ?_)
      have c0 : ∀ j, (fw j).cell? ⟨S, k, none⟩ = some (.int .u64 x) := fun j => Q0.out _ (hf j)
      repeat (go_big_quiet_step (fail))
      refine wpQuiet_nil ?_
      intro w6 hb6
      have hA6 := hA.keep hb6
      have hB6 := hB.keep hb6
      have hR6 := hR.keep hb6
      have hW6 := hW'.keep hb6
      have HG6 : Keep _ := ⟨HG.out.keep hb6⟩
      have hbb6 := hb.trans (hb6.mono (HSS.out _ hb))
      clear c0 hf hback hb6 hA hB hR hW' HG hb Q0
      go_wp2_with (go_at_call 56
                   refine (mulStep_c (S + 3) (S + 1) 69 24 k hlt (o.take k) (o.drop k) (List.replicate (5 - k) 0) b 0 x LT.out.1 LT.out.2.1 LT.out.2.2 LB.out WB.out bx (by omega) _ hW6 hB6).mono ?_
                   rintro e w9 ⟨rfl, o', cy, hW9, hl9, hw9, hn9, hc0, hc1, ho⟩
                   have hA9 := ho.has hA6 (by omega)
                   have hB9 := ho.has hB6 (by omega)
                   have hR9 := ho.has hR6 (by omega)
                   have HG9 : Keep _ := ⟨HG6.out.only ho HF.out⟩
                   have hb9 := hbb6.trans (ho.below (B := S) (by omega) (HSS.out _ hbb6))
                   have mr := mul_round hlt HI.out.1 HI.out.2.2 HX.out hl9 hn9
                   have HI9 : Keep ((o.take k ++ (o' ++ [cy])).length = k + 1 + 6 ∧ Words (o.take k ++ (o' ++ [cy])) ∧ num (o.take k ++ (o' ++ [cy])) = low a (k + 1) * num b) := ⟨mr.2, words_append (words_take HI.out.2.1 _) (words_append hw9 (words_one hc0 hc1)), mr.1⟩
                   have hW99 : Has w9 (S + 3) 69 (vals .u64 ((o.take k ++ (o' ++ [cy])) ++ List.replicate (6 - (k + 1)) 0)) := by
                     rw [show 6 - (k + 1) = 5 - k by omega, List.append_assoc, List.append_assoc]
                     exact hW9
                   clear hA6 hB6 hR6 hW6 hW9 ho hl9 hw9 hn9 hc0 hc1 mr hbb6)
      first
        | exact ⟨⟨k + 1, _, by omega, by go_num, HI9, hA9, hB9, hR9, hW99, HG9, hb9⟩, by simp [intOf]; omega⟩
        | (go_roundw
           case rel => exact ⟨k + 1, _, by omega, by go_num, HI9, hA9, hB9, hR9, hW99, HG9, hb9⟩
           case measure => simp [intOf]; omega)
    · obtain rfl : k = 6 := by omega
      have hW' : Has wr (S + 3) 69 (vals .u64 o) := by simpa using hW
      clear hW
      go_wp2_with (first
        | (refine wpList_store_rowTo rfl 24 (.tmp 4) (.tmp 21) rfl rfl (S + 2) (vals .u64 o0) rfl rfl _ _ hR9.eq (by rw [vals_size, OL.out]; kernel_rfl) (by rw [vals_size, vals_size, OL.out]; rfl) vals_one ?_)
        | (go_at_call 42
           refine (folded_c (S + 3) 69 o HI.out.1 HI.out.2.1 HF.out _ HG.out hW').mono ?_
           rintro e w9 ⟨rfl, ho⟩
           rw [HI.out.2.2, HO.out]
           have hR9 := ho.has hR (by omega)
           have hb9 := hb.trans (ho.below (B := S) (by omega) (HSS.out _ hb))
           clear hA hB hR hW' ho hb))
      refine bodyPost_ret (v := .agg (vals .u64 o0)) (results_cell_row rfl _ _ (S + 2) _ _ _ _ rfl (hR9.row _).eq Tryd.underlying24 rfl (by rw [vals_size, OL.out]; kernel_rfl)) rfl ⟨rfl, by rw [hS]; exact below_row hb9 (by omega) _⟩
end Go.Proofs.YtmohopjblhgdiaaDoor.Fp
