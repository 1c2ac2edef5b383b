/-
  Own text. The closure of doubledInverse of package fp: a number halved as long as it is even, another one doubled as often.
-/
import Derived.Test.YtmohopjblhgdiaaDoorFpW10
import Derived.Test.YtmohopjblhgdiaaDoorMFpN
namespace Go.Proofs.YtmohopjblhgdiaaDoor.Fp
set_option linter.unusedVariables false
open Go Go.RowKit Go.Proofs.YtmohopjblhgdiaaDoor.Reg Go.Proofs.YtmohopjblhgdiaaDoor.Base Go.Proofs.YtmohopjblhgdiaaDoor.Limb Go.Proofs.YtmohopjblhgdiaaDoor.Bits

/-- Of what was there, nothing but three blocks has turned. -/
structure Far3 (a b c : Nat) (w w' : World) : Prop where
  has : ∀ g t cs, Has w g t cs → g ≠ a → g ≠ b → g ≠ c → Has w' g t cs
  below : ∀ B, B ≤ a → B ≤ b → B ≤ c → B ≤ w.heap.size → Below B w w'
  size : w.heap.size ≤ w'.heap.size
section
variable {a b c : Nat} {w w1 w2 : World}
theorem Far3.refl (a b c : Nat) (w : World) : Far3 a b c w w := ⟨fun _ _ _ h _ _ _ => h, fun _ _ _ _ _ => Below.refl _ _, Nat.le_refl _⟩
theorem Far3.onA (h : Far3 a b c w w1) (k : Only a w1 w2) : Far3 a b c w w2 :=
  ⟨fun g t cs hh h1 h2 h3 => k.has (h.has g t cs hh h1 h2 h3) h1, fun B h1 h2 h3 h4 => (h.below B h1 h2 h3 h4).trans (k.below h1 (Nat.le_trans h4 h.size)), Nat.le_trans h.size k.size⟩
theorem Far3.onB (h : Far3 a b c w w1) (k : Only b w1 w2) : Far3 a b c w w2 :=
  ⟨fun g t cs hh h1 h2 h3 => k.has (h.has g t cs hh h1 h2 h3) h2, fun B h1 h2 h3 h4 => (h.below B h1 h2 h3 h4).trans (k.below h2 (Nat.le_trans h4 h.size)), Nat.le_trans h.size k.size⟩
theorem Far3.onC (h : Far3 a b c w w1) (k : Only c w1 w2) : Far3 a b c w w2 :=
  ⟨fun g t cs hh h1 h2 h3 => k.has (h.has g t cs hh h1 h2 h3) h3, fun B h1 h2 h3 h4 => (h.below B h1 h2 h3 h4).trans (k.below h3 (Nat.le_trans h4 h.size)), Nat.le_trans h.size k.size⟩
end
theorem pow_small {d : Nat} {v v' : Int} (h : v = 2 ^ d * v') (h1 : 0 < v') (h2 : v < wp 6) : d < 384 := by
  rcases Nat.lt_or_ge d 384 with h3 | h3
  · exact h3
  · exfalso
    have h4 := tp_le h3
    have h5 : tp 384 = wp 6 := tp_wp 6
    have h6 : tp d * 1 ≤ tp d * v' := Int.mul_le_mul_of_nonneg_left (by omega) (Int.le_of_lt (tp_pos d))
    have h7 : v = tp d * v' := h
    omega
/-- What one round of halving says. -/
theorem odd_round {v v' v2 r r' : Int} {d n : Nat} (hv : v = 2 ^ d * v') (hr : r' = 2 ^ d * r) (hv0 : 0 < v') (hr0 : 0 ≤ r) (hvr : v * r < wp 6) (h2 : v' = 2 ^ n * v2) (hn : 1 ≤ n) : 0 < v2 ∧ v2 < v' ∧ 2 ^ n * r' < wp 6 ∧ v = 2 ^ (d + n) * v2 := by
  have p : (0 : Int) < 2 ^ n := Int.pow_pos (by omega)
  have p2 : (2 : Int) ≤ 2 ^ n := by
    obtain ⟨m, rfl⟩ : ∃ m, n = m + 1 := ⟨n - 1, by omega⟩
    have : (0 : Int) < 2 ^ m := Int.pow_pos (by omega)
    rw [Int.pow_succ]
    omega
  have q : 0 < v2 := by
    rcases Int.lt_or_le 0 v2 with h | h
    · exact h
    · exfalso
      have : 2 ^ n * v2 ≤ 2 ^ n * 0 := Int.mul_le_mul_of_nonneg_left h (by omega)
      omega
  have q2 : 2 * v2 ≤ 2 ^ n * v2 := Int.mul_le_mul_of_nonneg_right p2 (by omega)
  have pd : (0 : Int) < 2 ^ d := Int.pow_pos (by omega)
  have hr'0 : 0 ≤ r' := by rw [hr]; exact Int.mul_nonneg (by omega) hr0
  refine ⟨q, by omega, ?_, by rw [hv, h2, Int.pow_add, Int.mul_assoc]⟩
  have e : v * r = v' * r' := by rw [hv, hr]; grind
  have h3 : 2 ^ n * 1 ≤ 2 ^ n * v2 := Int.mul_le_mul_of_nonneg_left (by omega) (by omega)
  have h4 : 2 ^ n * r' ≤ v' * r' := Int.mul_le_mul_of_nonneg_right (by omega) hr'0
  omega

set_option maxRecDepth 100000 in
set_option maxHeartbeats 2000000 in
theorem makeOdd_c (gn go gd : Nat) (tn to td : TypeId) (v r : List Int) (D : Nat) (hlv : v.length = 6) (hwv : Words v) (hlr : r.length = 6) (hwr : Words r) (hv : 0 < num v) (hvr : num v * num r < wp 6) (hD : D ≤ 100000) (hno : gn ≠ go) (hnd : gn ≠ gd) (hod : go ≠ gd)
    (hfn : FreeD gn) (hfo : FreeD go) (hfd : FreeD gd) (w : World) (hG : GlobD w) (hN : Has w gn tn (vals .u64 v)) (hO : Has w go to (vals .u64 r)) (hE : Has w gd td (vals .i64 [(D : Int)])) :
    Calls Tryd.prog 63 #[.pointer (some ⟨gn, 0, none⟩), .pointer (some ⟨go, 0, none⟩), .pointer (some ⟨gd, 0, none⟩)] w fun e w' => e = .returned (.tuple #[]) ∧ ∃ (v' r' : List Int) (d : Nat), Has w' gn tn (vals .u64 v') ∧ Has w' go to (vals .u64 r') ∧ Has w' gd td (vals .i64 [((D + d : Nat) : Int)]) ∧ (v'.length = 6 ∧ Words v' ∧ r'.length = 6 ∧ Words r' ∧ 0 < num v' ∧ num v = 2 ^ d * num v' ∧ num r' = 2 ^ d * num r) ∧ GlobD w' ∧ Far3 gn go gd w w' := by
  have HV : Keep (0 ≤ num r ∧ num v * num r < wp 6 ∧ num v < wp 6) := ⟨(num6 hwr hlr).1, hvr, (num6 hwv hlv).2⟩
  have FN : Keep _ := ⟨hfn⟩
  have FO : Keep _ := ⟨hfo⟩
  have FD : Keep _ := ⟨hfd⟩
  have HI0 : Keep (v.length = 6 ∧ Words v ∧ r.length = 6 ∧ Words r ∧ 0 < num v ∧ num v = 2 ^ 0 * num v ∧ num r = 2 ^ 0 * num r) := ⟨hlv, hwv, hlr, hwr, hv, by simp, by simp⟩
  have HG0 : Keep _ := ⟨hG⟩
  have hF0 := Far3.refl gn go gd w
  have hn0 : num v ≤ ((num v).toNat : Int) := by omega
  clear hlv hwv hlr hwr hv hvr hfn hfo hfd hG
  go_enter Tryd.func63, Tryd.ntmps63
  go_wp2
  go_loopg [] (num v).toNat (fun (gk : Nat) wr => ∃ (v' r' : List Int) (d : Nat), Keep (v'.length = 6 ∧ Words v' ∧ r'.length = 6 ∧ Words r' ∧ 0 < num v' ∧ num v = 2 ^ d * num v' ∧ num r' = 2 ^ d * num r) ∧ Keep (num v' ≤ (gk : Int)) ∧ Has wr gn tn (vals .u64 v') ∧ Has wr go to (vals .u64 r') ∧ Has wr gd td (vals .i64 [((D + d : Nat) : Int)]) ∧ Keep (GlobD wr) ∧ Far3 gn go gd w wr)
  case atStart => exact ⟨v, r, 0, HI0, ⟨hn0⟩, hN, hO, hE, HG0, hF0⟩
  case round =>
    clear hN hO hE HG0 hF0 hn0 HI0
    obtain ⟨v', r', d, HI, HK, hN, hO, hE, HG, hF⟩ := hrel
    obtain ⟨x, hx⟩ : ∃ x, nth v' 0 = x := ⟨_, rfl⟩
    have bx : 0 ≤ x ∧ x ≤ 18446744073709551615 := hx ▸ HI.out.2.1 0
    have c0 : wr.cell? ⟨gn, 0, none⟩ = some (.int .u64 x) := by rw [← hx]; exact hN.val (by rw [HI.out.1]; omega)
    have HX : Keep _ := ⟨hx⟩
    clear hx
    by_cases hp : x % 2 = 0
    · obtain ⟨n, hn64, hdiv, hn1, HC⟩ := tz_c x bx wr HG.out
      have hn : 1 ≤ n := hn1 hp
      have HC' : Keep _ := ⟨HC⟩
      obtain ⟨t, hnt⟩ : ∃ t, n + t = 64 := ⟨64 - n, by omega⟩
      have NT : Keep (n + t = 64 ∧ nth v' 0 % 2 ^ n = 0 ∧ 1 ≤ n) := ⟨hnt, by rw [HX.out]; exact hdiv, hn⟩
      have ORF : Keep (∀ v2 : Int, num v' = 2 ^ n * v2 → 0 < v2 ∧ v2 < num v' ∧ 2 ^ n * num r' < wp 6 ∧ num v = 2 ^ (d + n) * v2) := ⟨fun v2 h2 => odd_round HI.out.2.2.2.2.2.1 HI.out.2.2.2.2.2.2 HI.out.2.2.2.2.1 HV.out.1 HV.out.2.1 h2 NT.out.2.2⟩
      have hd := pow_small HI.out.2.2.2.2.2.1 HI.out.2.2.2.2.1 HV.out.2.2
      have hwr : wrap64 ((D : Int) + (d : Int) + (n : Int)) = ((D + (d + n) : Nat) : Int) := by unfold wrap64; omega
      obtain ⟨E, hE'⟩ : ∃ E : Int, ((D + (d + n) : Nat) : Int) = E := ⟨_, rfl⟩
      rw [hE'] at hwr
      have HE' : Keep _ := ⟨hE'⟩
      clear hE'
      have hb : (x.tmod 2 == 0) = true := by rw [beq_iff_eq, Int.tmod_eq_emod_of_nonneg bx.1]; exact hp
      clear HC hnt hdiv hn1 hn hp hn64 bx
      go_wp2_with (first
        | (go_at_call 66
           refine (shiftUp_c go to r' HI.out.2.2.1 HI.out.2.2.2.1 n t NT.out.1 _ hO2).mono ?_
           rintro e w3 ⟨rfl, r2, hO3, hl3, hw3, he3, ho⟩
           have hN3 := ho.has hN2 hno
           have hE3 := ho.has hE2 (Ne.symm hod)
           have HG3 : Keep _ := ⟨HG2.out.only ho FO.out⟩
           have hF3 := hF2.onB ho
           have HR2 : Keep (r2.length = 6 ∧ Words r2 ∧ num r2 = 2 ^ n * num r') := ⟨hl3, hw3, he3 OR.out.2.2.1⟩
           have ce := hE3.val (i := 0) (by simp)
           have ze := hE3.frozen 0
           simp only [nth, List.getD_cons_zero] at ce
           clear hN2 hO2 hE2 hF2 ho hl3 hw3 he3)
        | (go_at_call 65
           refine (shiftDown_c gn tn v' HI.out.1 HI.out.2.1 n t NT.out.1 _ hN).mono ?_
           rintro e w2 ⟨rfl, v2, hN2, hl2, hw2, he2, ho⟩
           have hO2 := ho.has hO (Ne.symm hno)
           have hE2 := ho.has hE (Ne.symm hnd)
           have HG2 : Keep _ := ⟨HG.out.only ho FN.out⟩
           have hF2 := hF.onA ho
           have OR : Keep _ := ⟨ORF.out _ (he2 NT.out.2.1)⟩
           have HV2 : Keep (v2.length = 6 ∧ Words v2) := ⟨hl2, hw2⟩
           clear hN hO hE hF ho hl2 hw2 he2 c0)
        | (go_at_call 64
           refine HC'.out.mono ?_
           rintro e w1 ⟨rfl, rfl⟩))
      have hE4 := hE3.set_ 0 (.int .i64 E)
      rw [vals_set] at hE4
      have ho4 : Only gd w3 (w3.setCell ⟨gd, 0, none⟩ (.int .i64 E)) := (Only.refl gd w3).set_ (p := ⟨gd, 0, none⟩) rfl _
      have hN4 := ho4.has hN3 hnd
      have hO4 := ho4.has hO3 hod
      have HG4 : Keep _ := ⟨HG3.out.only ho4 FD.out⟩
      have hF4 := hF3.onC ho4
      have hE5 : Has (w3.setCell ⟨gd, 0, none⟩ (.int .i64 E)) gd td (vals .i64 [((D + (d + n) : Nat) : Int)]) := by rw [HE'.out]; exact hE4
      have HI4 : Keep (v2.length = 6 ∧ Words v2 ∧ r2.length = 6 ∧ Words r2 ∧ 0 < num v2 ∧ num v = 2 ^ (d + n) * num v2 ∧ num r2 = 2 ^ (d + n) * num r) := ⟨HV2.out.1, HV2.out.2, HR2.out.1, HR2.out.2.1, OR.out.1, OR.out.2.2.2, by rw [HR2.out.2.2, HI.out.2.2.2.2.2.2, Int.pow_add]; grind⟩
      have hk1 := HK.out
      have hk2 := OR.out.1
      have hk3 := OR.out.2.1
      go_roundg (gk - 1)
      case measure => omega
      case rel => exact ⟨v2, r2, d + n, HI4, ⟨by omega⟩, hN4, hO4, hE5, HG4, hF4⟩
    · have hb : (x.tmod 2 == 0) = false := by rw [beq_eq_false_iff_ne, Int.tmod_eq_emod_of_nonneg bx.1]; exact hp
      go_wp2
      go_end0
      exact ⟨rfl, v', r', d, hN, hO, hE, HI.out, HG.out, hF⟩
end Go.Proofs.YtmohopjblhgdiaaDoor.Fp
