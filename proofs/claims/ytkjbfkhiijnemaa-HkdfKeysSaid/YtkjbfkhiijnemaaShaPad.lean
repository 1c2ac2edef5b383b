/-
  Own text. The contracts of package sha's Pad and of the reference's.
-/
import Derived.Test.YtkjbfkhiijnemaaShaDig
import Derived.Test.YtkjbfkhiijnemaaMem
namespace Go.Proofs.Ytkjbfkhiijnemaa.Sha
open Go Go.RowKit Go.Proofs.Ytkjbfkhiijnemaa.Reg

def padLen (n : Nat) : Nat := (n + 72) / 64 * 64
/-- The bytes while i bytes of the count are laid. -/
def padF (bs : List Int) (i j : Nat) : Int :=
  if j < bs.length then nth bs j else if j = bs.length then 128 else if padLen bs.length - i ≤ j then (8 * (bs.length : Int)) / 2 ^ (8 * (padLen bs.length - 1 - j)) % 256 else 0
def padL (bs : List Int) : List Int := tab (padLen bs.length) (padF bs 8)
theorem padLen_le (n : Nat) : n + 9 ≤ padLen n ∧ padLen n ≤ n + 72 := by unfold padLen; omega
theorem padL_len (bs : List Int) : (padL bs).length = padLen bs.length := tab_len _ _
theorem pad_copy (bs : List Int) (L : Nat) (hL : bs.length ≤ L) : (List.replicate L 0).take 0 ++ (bs ++ (List.replicate L (0 : Int)).drop (0 + bs.length)) = tab L (fun j => if j < bs.length then nth bs j else 0) := by
  refine tab_eq (by simp; omega) fun j hj => ?_
  rw [List.take_zero, List.nil_append]
  by_cases h : j < bs.length
  · rw [nth_append_left _ _ _ h, if_pos h]
  · rw [nth_append_right _ _ _ (by omega), if_neg h]
    simp only [nth, List.getD_eq_getElem?_getD, List.drop_replicate]
    rw [List.getElem?_replicate]
    split <;> rfl
theorem pad_mark (bs : List Int) : (tab (padLen bs.length) (fun j => if j < bs.length then nth bs j else 0)).set bs.length 128 = tab (padLen bs.length) (padF bs 0) := by
  have := padLen_le bs.length
  refine tab_set _ _ (by omega) (by simp [padF]) fun j hj hne => ?_
  unfold padF
  by_cases h : j < bs.length
  · rw [if_pos h, if_pos h]
  · rw [if_neg h, if_neg h, if_neg hne, if_neg (by omega)]
theorem pad_step (bs : List Int) (i : Nat) (hi : i < 8) : (tab (padLen bs.length) (padF bs i)).set (padLen bs.length - 1 - i) (8 * (bs.length : Int) / 2 ^ (8 * i) % 256) = tab (padLen bs.length) (padF bs (i + 1)) := by
  have := padLen_le bs.length
  refine tab_set _ _ (by omega) ?_ fun j hj hne => ?_
  · unfold padF
    rw [if_neg (by omega), if_neg (by omega), if_pos (by omega), show padLen bs.length - 1 - (padLen bs.length - 1 - i) = i by omega]
  · unfold padF
    by_cases h1 : j < bs.length
    · rw [if_pos h1, if_pos h1]
    · rw [if_neg h1, if_neg h1]
      by_cases h2 : j = bs.length
      · rw [if_pos h2, if_pos h2]
      · rw [if_neg h2, if_neg h2]
        by_cases h3 : padLen bs.length - i ≤ j
        · rw [if_pos h3, if_pos (by omega)]
        · rw [if_neg h3, if_neg (by omega)]

theorem u8Elem : IntElem Try.prog 5 .u8 1 := .of (by kernel_rfl) (by kernel_rfl)

set_option maxHeartbeats 400000 in
theorem paddedLen_s (n L : Nat) (hn : n ≤ 140737488355328) (hL : L = padLen n) (w : World) :
    Calls Try.prog 31 #[.int .i64 (n : Int)] w fun e w' => e = .returned (.int .i64 (L : Int)) ∧ w = w' := by
  subst hL
  have HE : Keep (((n : Int) + 1 + 8 + 64 - 1) / 64 * 64 = (padLen n : Int)) := ⟨by unfold padLen; omega⟩
  go_enter Try.func31, Try.ntmps31
  go_wp2
  go_ret
  exact ⟨ret_eq (congrArg (Value.int .i64) HE.out), rfl⟩

set_option maxRecDepth 100000 in
set_option maxHeartbeats 1000000 in
theorem pad_c (A : Option Addr) (n c : Nat) (bs : List Int) (B : Nat) (w : World) (hr : Rd w B A n .u8 bs) (hB : B ≤ w.heap.size) (hn : n ≤ 1000000) :
    Calls Try.prog 23 #[.slice A n c] w fun e w' => e = .returned (.slice (some ⟨w.heap.size, 0, none⟩) (padLen n) (padLen n)) ∧ Has w' w.heap.size 5 (vals .u8 (padL bs)) ∧ Below w.heap.size w w' := by
  obtain ⟨L, hL⟩ : ∃ L, L = padLen n := ⟨_, rfl⟩
  have hLb := padLen_le n
  rw [← hL] at hLb
  have hmk := fun w => run_make_vals (P := Try.prog) w 23 5 .u8 Try.underlying23 u8Elem .i64 .i64 L (by omega) (by omega)
  have HL : Keep (L = padLen n) := ⟨hL⟩
  have hlen := hr.len
  have LN : Keep _ := ⟨hlen⟩
  rw [← hL]
  clear hL hlen
  obtain ⟨hL1, hL2⟩ := hLb
  go_enter Try.func23, Try.ntmps23
  go_wp2_with (first
    | (go_at_call 31; refine (paddedLen_s n L (by omega) HL.out _).mono ?_; rintro e w' ⟨rfl, rfl⟩)
    | (refine copy_rd (by rfl) (.tmp 10) (.tmp 11) 23 23 (by rfl) 5 Try.underlying23 (by kernel_rfl) w.heap.size 0 L L A n c (by rfl) (by rfl) .u8 5 (List.replicate L 0) bs B (Has.new w _ _) (hr.keep ((Below.refl w.heap.size w).alloc (Nat.le_refl _) _) hB) (by omega) (by simp; omega) w.heap.size w ((Below.refl _ _).alloc (Nat.le_refl _) _) (Nat.le_refl _) ?_
       intro w2 hP hkeep hb2
       clear hkeep
       rw [pad_copy bs L (by rw [LN.out]; omega)] at hP
       have cn : w2.cell? ⟨w.heap.size, n, none⟩ = some (.int .u8 (nth (tab L fun j => if j < bs.length then nth bs j else 0) n)) := hP.val (by rw [tab_len]; omega)
       have zn := hP.frozen n))
  have PL : Keep (padLen bs.length = L) := ⟨by rw [LN.out]; exact HL.out.symm⟩
  have hQ := hP.set_ n (.int .u8 128)
  rw [vals_set] at hQ
  have hQ' : Has (w2.setCell ⟨w.heap.size, n, none⟩ (.int .u8 128)) w.heap.size 5 (vals .u8 (tab L (padF bs 0))) := by
    have := pad_mark bs
    rw [PL.out, LN.out] at this
    rw [LN.out, this] at hQ
    exact hQ
  have hbQ := hb2.setCell (p := ⟨w.heap.size, n, none⟩) (Nat.le_refl _) (.int .u8 128)
  clear hP hQ cn zn hb2
  go_loopw [5, 21] (fun _ i wr => ∃ k : Nat, k ≤ 8 ∧ i = .int .i64 k ∧ Has wr w.heap.size 5 (vals .u8 (tab L (padF bs k))) ∧ Below w.heap.size w wr) (fun _ i _ => 8 - (intOf i).toNat)
  case atStart => exact ⟨0, Nat.zero_le _, rfl, hQ', hbQ⟩
  case round =>
    clear hQ' hbQ
    obtain ⟨k, hk, rfl, hP, hb⟩ := hrel
    by_cases hlt : k < 8
    · have cn : wr.cell? ⟨w.heap.size, L - 1 - k, none⟩ = some (.int .u8 (nth (tab L (padF bs k)) (L - 1 - k))) := hP.val (by rw [tab_len]; omega)
      have zn := hP.frozen (L - 1 - k)
      go_wp2
      go_roundw
      case rel =>
        refine ⟨k + 1, by omega, by go_num, ?_, hb.setCell (Nat.le_refl _) _⟩
        have h1 := hP.set_ (L - 1 - k) (.int .u8 (8 * (n : Int) / 2 ^ (8 * k) % 256))
        have h2 := pad_step bs k hlt
        rw [PL.out, LN.out] at h2
        rwa [vals_set, h2] at h1
      case measure => simp [intOf]; omega
    · have ek : k = 8 := by omega
      subst ek
      go_wp2
      go_ret
      refine ⟨?_, ?_, hb⟩
      · rfl
      · rw [padL, PL.out]; exact hP

def lenOf : Value → Nat | .slice _ n _ => n | _ => 0
def padB (bs : List Int) (i : Nat) : Int := 8 * (bs.length : Int) / 2 ^ (8 * i) % 256
/-- The reference's bytes: zeros one at a time, then the count's. -/
def refZ (bs : List Int) (z : Nat) : List Int := bs ++ [128] ++ List.replicate z 0
def refC (bs : List Int) (i : Nat) : List Int := refZ bs (padLen bs.length - 9 - bs.length) ++ (List.range i).map fun j => padB bs (7 - j)
theorem refZ_succ (bs : List Int) (z : Nat) : refZ bs z ++ [0] = refZ bs (z + 1) := by simp [refZ, List.replicate_succ']
theorem refC_succ (bs : List Int) (i : Nat) : refC bs i ++ [padB bs (7 - i)] = refC bs (i + 1) := by simp [refC, List.range_succ]
theorem refZ_len (bs : List Int) (z : Nat) : (refZ bs z).length = bs.length + 1 + z := by simp [refZ]; omega
theorem refC_all (bs : List Int) : refC bs 8 = padL bs := by
  have hl := padLen_le bs.length
  refine tab_eq (by simp [refC, refZ]; omega) fun j hj => ?_
  unfold refC refZ padF
  by_cases h1 : j < bs.length
  · rw [nth_append_left _ _ _ (by simp <;> omega), nth_append_left _ _ _ (by simp <;> omega), nth_append_left _ _ _ h1, if_pos h1]
  · rw [if_neg h1]
    by_cases h2 : j = bs.length
    · subst h2
      rw [nth_append_left _ _ _ (by simp <;> omega), nth_append_left _ _ _ (by simp), nth_append_right _ _ _ (Nat.le_refl _), if_pos rfl]
      simp [nth]
    · rw [if_neg h2]
      by_cases h3 : padLen bs.length - 8 ≤ j
      · rw [nth_append_right _ _ _ (by simp <;> omega), if_pos h3]
        simp only [List.length_append, List.length_replicate, List.length_cons, List.length_nil]
        have h4 : j - (bs.length + (0 + 1) + (padLen bs.length - 9 - bs.length)) < 8 := by omega
        have := tab_nth (n := 8) (fun j => padB bs (7 - j)) h4
        rw [tab] at this
        rw [this, padB]
        congr 3
        omega
      · rw [nth_append_left _ _ _ (by simp <;> omega), nth_append_right _ _ _ (by simp <;> omega), if_neg h3]
        simp only [nth, List.getD_eq_getElem?_getD, List.getElem?_replicate]
        split <;> rfl

set_option maxRecDepth 100000 in
set_option maxHeartbeats 2000000 in
theorem refPad_c (A : Option Addr) (n c : Nat) (bs : List Int) (B : Nat) (w : World) (hr : Rd w B A n .u8 bs) (hB : B ≤ w.heap.size) (hn : n ≤ 1000000) :
    Calls Try.prog 28 #[.slice A n c] w fun e w' => ∃ A' c', e = .returned (.slice A' (padLen n) c') ∧ Own w' w.heap.size 5 .u8 A' (padLen n) c' (padL bs) ∧ Below w.heap.size w w' := by
  have LN : Keep _ := ⟨hr.len⟩
  go_enter Try.func28, Try.ntmps28
  go_wp2_with (first
    | (refine append_abs (by rfl) (.tmp 6) (.tmp 7) 23 (by rfl) w.heap.size 5 .u8 1 Try.underlying23 u8Elem (some ⟨w.heap.size, 0, none⟩) 0 0 [] (by rfl) (Own.of_has (Has.new w 5 (vals .u8 [])) (Nat.le_refl _) (Nat.zero_le _)) B A n c bs (by rfl) (hr.keep ((Below.refl w.heap.size w).alloc (Nat.le_refl _) _) hB) n (Nat.zero_add n) bs (by rfl) (by omega) (by unfold maxLen; omega) (by simp) ?_
       intro A1 c1 w1 ho1 hb1
       have hbb1 := ((Below.refl w.heap.size w).alloc (Nat.le_refl _) (.cells (vals .u8 []) 5)).trans hb1
       clear hb1)
    | (refine append_abs (by rfl) (.tmp 8) (.tmp 9) 23 (by rfl) w.heap.size 5 .u8 1 Try.underlying23 u8Elem A1 n c1 bs (by rfl) (ho1.keep ((Below.refl _ _).alloc (Nat.le_refl _) _)) (w1.heap.size + 1) (some ⟨w1.heap.size, 0, none⟩) 1 1 [128] (by rfl) (Rd.of_has (Has.new w1 5 (vals .u8 [128])) (by omega) (by rfl) (by simp)) (n + 1) (by rfl) (refZ bs 0) (by simp [refZ]) (by omega) (by unfold maxLen; omega) (by have := hbb1.size; simp; omega) ?_
       intro A2 c2 w2 ho2 hb2
       have hbb2 := (hbb1.alloc hbb1.size (.cells (vals .u8 [128]) 5)).trans hb2
       clear hb2 hbb1 ho1))
  obtain ⟨Z, hZ⟩ : ∃ Z, Z = padLen n - 9 - n := ⟨_, rfl⟩
  have hP := padLen_le n
  have hmul : padLen n % 64 = 0 := by unfold padLen; omega
  have hmin : padLen n < n + 9 + 64 := by unfold padLen; omega
  have PZ : Keep (padLen n = n + 9 + Z) := ⟨by omega⟩
  have hend : (n + 1 + Z) % 64 = 56 := by omega
  have hnot : ∀ z, z < Z → ¬ (n + 1 + z) % 64 = 56 := fun z hz => by omega
  have hZ2 : Z ≤ 64 := by omega
  have HE : Keep _ := ⟨hend⟩
  have HN : Keep _ := ⟨hnot⟩
  clear hmul hmin hend hnot hZ hP
  go_loopw [3] (fun v wr => ∃ (z : Nat) (A' : Option Addr) (c' : Nat), z ≤ Z ∧ v = .slice A' (n + 1 + z) c' ∧ Own wr w.heap.size 5 .u8 A' (n + 1 + z) c' (refZ bs z) ∧ Below w.heap.size w wr) (fun v _ => n + 1 + Z - lenOf v)
  case atStart => exact ⟨0, A2, c2, Nat.zero_le _, rfl, ho2, hbb2⟩
  case round =>
    clear ho2 hbb2
    obtain ⟨z, A3, c3, hz, rfl, ho3, hb3⟩ := hrel
    by_cases hlt : z < Z
    · have hm := HN.out z hlt
      go_wp2_with (refine append_abs (by rfl) (.tmp 15) (.tmp 16) 23 (by rfl) w.heap.size 5 .u8 1 Try.underlying23 u8Elem A3 (n + 1 + z) c3 (refZ bs z) (by rfl) (ho3.keep ((Below.refl _ _).alloc (Nat.le_refl _) _)) (wr.heap.size + 1) (some ⟨wr.heap.size, 0, none⟩) 1 1 [0] (by rfl) (Rd.of_has (Has.new wr 5 (vals .u8 [0])) (by omega) (by rfl) (by simp)) (n + 1 + z + 1) (by rfl) (refZ bs (z + 1)) (refZ_succ bs z) (by omega) (by unfold maxLen; omega) (by have := hb3.size; simp; omega) ?_
                   intro A4 c4 w4 ho4 hb4
                   have hbb4 := (hb3.alloc hb3.size (.cells (vals .u8 [0]) 5)).trans hb4)
      go_roundw
      case rel => exact ⟨z + 1, A4, c4, by omega, rfl, ho4, hbb4⟩
      case measure => simp [lenOf]; omega
    · have ez : z = Z := by omega
      subst ez
      have hm : ((((n : Int) + 1 + (z : Int)) % 64 != 56) = false) := by
        have := HE.out
        rw [bne_eq_false_iff_eq]
        omega
      go_wp2
      go_loopw [3, 5] (fun v i wr => ∃ (m : Nat) (A' : Option Addr) (c' : Nat), m ≤ 8 ∧ i = .int .i64 ((m : Int) - 1) ∧ v = .slice A' (n + 1 + z + (8 - m)) c' ∧ Own wr w.heap.size 5 .u8 A' (n + 1 + z + (8 - m)) c' (refC bs (8 - m)) ∧ Below w.heap.size w wr) (fun _ i _ => (intOf i + 1).toNat)
      case atStart => exact ⟨8, A3, c3, Nat.le_refl _, rfl, rfl, (by have := PZ.out; rw [refC, LN.out, show padLen n - 9 - n = z by omega]; simpa using ho3), hb3⟩
      case round =>
        clear ho3 hb3
        rename_i wr
        obtain ⟨m, A5, c5, hm8, rfl, rfl, ho5, hb5⟩ := hrel
        rcases m with _ | q
        · go_wp2
          go_ret
          have hE : n + 1 + z + (8 - 0) = padLen n := by rw [PZ.out]; omega
          rw [hE, show (8 - 0) = 8 from rfl, refC_all] at ho5
          exact ⟨A5, c5, ret_eq (show Value.slice A5 (n + 1 + z + (8 - 0)) c5 = _ by rw [hE]), ho5, hb5⟩
        · have e1 : (((q + 1 : Nat) : Int) - 1) = (q : Int) := by omega
          rw [e1]
          clear e1
          go_wp2_with (refine append_abs (by rfl) (.tmp 26) (.tmp 33) 23 (by rfl) w.heap.size 5 .u8 1 Try.underlying23 u8Elem A5 (n + 1 + z + (8 - (q + 1))) c5 (refC bs (8 - (q + 1))) (by rfl) (ho5.keep ((Below.refl _ _).alloc (Nat.le_refl _) _)) (wr.heap.size + 1) (some ⟨wr.heap.size, 0, none⟩) 1 1 [8 * (n : Int) / 2 ^ (8 * q) % 256] (by rfl) (Rd.of_has (Has.new wr 5 (vals .u8 [8 * (n : Int) / 2 ^ (8 * q) % 256])) (by omega) (by rfl) (by simp)) (n + 1 + z + (8 - q)) (by omega) (refC bs (8 - q))
                         (by have := refC_succ bs (8 - (q + 1)); rw [show 7 - (8 - (q + 1)) = q by omega, padB, LN.out, show 8 - (q + 1) + 1 = 8 - q by omega] at this; exact this) (by omega) (by unfold maxLen; omega) (by have := hb5.size; simp; omega) ?_
                       intro A6 c6 w6 ho6 hb6
                       have hbb6 := (hb5.alloc hb5.size (.cells (vals .u8 [8 * (n : Int) / 2 ^ (8 * q) % 256]) 5)).trans hb6)
          go_roundw
          case rel =>
            exact ⟨q, A6, c6, by omega, rfl, rfl, ho6, hbb6⟩
          case measure => simp [intOf]
end Go.Proofs.Ytkjbfkhiijnemaa.Sha
