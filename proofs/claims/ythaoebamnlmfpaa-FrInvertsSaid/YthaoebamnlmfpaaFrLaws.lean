/-
  Own text. The walks of layer 6's statements: names, what is told, inverses, bytes, field.
-/
import Derived.Test.YthaoebamnlmfpaaFrAwake
namespace Go.Proofs.Ythaoebamnlmfpaa.Fr
set_option linter.unusedVariables false
set_option linter.unusedSimpArgs false
open Go Go.RowKit Go.Proofs.Ythaoebamnlmfpaa.Num Go.Proofs.Ythaoebamnlmfpaa.Reg Go.Proofs.Ythaoebamnlmfpaa.Base Go.Proofs.Ythaoebamnlmfpaa.Limb Go.Proofs.Ythaoebamnlmfpaa.Bits

set_option maxRecDepth 100000 in
set_option maxHeartbeats 4000000 in
theorem names_w  (w : World) : Calls Try.prog 3 #[] w fun e w' => e = .returned (.bool true) ∧ Below w.heap.size w w' := by
  have P1 : Keep (∀ x : World, _) := ⟨fun x => frR_c x⟩
  have P2 : Keep (∀ x : World, _) := ⟨fun x => refR_c x⟩
  have E1 := eq4 mL rfl
  have hgd := gd4
  obtain ⟨S, hS⟩ : ∃ S, w.heap.size = S := ⟨_, rfl⟩
  have hsz0 : w.heap.size = S + 0 := hS
  have hb0 : Below S w w := Below.refl _ _
  have HSS : Keep (∀ x : World, Below S w x → S ≤ x.heap.size) := ⟨fun x hb => by have := hb.size; omega⟩
  rw [hS]
  go_enter Try.func3, Try.ntmps3
  go_wp2_with (first
    | (have hq0 := hb2
       clear hq0
       go_at_call 13
       refine (P2.out _).mono ?_
       rintro e w3 ⟨rfl, hq⟩
       have hb3 := hb2.trans (hq.mono (HSS.out _ hb2))
       clear hq hb2 )
    | (have hq0 := hb1
       clear hq0
       go_at_call 12
       refine (P1.out _).mono ?_
       rintro e w2 ⟨rfl, hq⟩
       have hb2 := hb1.trans (hq.mono (HSS.out _ hb1))
       clear hq hb1 )
    | (have hq0 := hb0
       clear hq0
       go_at_call 11
       refine (awake_c _).mono ?_
       rintro e w1 ⟨rfl, hq⟩
       have hb1 := hb0.trans (hq.mono (HSS.out _ hb0))
       clear hq hb0 ))
  go_ret
  exact ⟨rfl, hb3⟩

set_option maxRecDepth 100000 in
set_option maxHeartbeats 4000000 in
theorem tells_w (a : List Int) (hla : a.length = 4) (hwa : Words a) (b : List Int) (hlb : b.length = 4) (hwb : Words b) (w : World) : Calls Try.prog 4 #[.agg (vals .u64 a), .agg (vals .u64 b)] w fun e w' => e = .returned (.bool true) ∧ Below w.heap.size w w' := by
  have P1 : Keep (∀ x : World, _) := ⟨fun x => frReduce_c a hla hwa x⟩
  have Q1 : Keep (∀ x : World, _) := ⟨fun x => refReduce_c a hla hwa x⟩
  have P2 : Keep (∀ x : World, _) := ⟨fun x => frAdd_c a hla hwa b hlb hwb x⟩
  have Q2 : Keep (∀ x : World, _) := ⟨fun x => refAdd_c4 a hla hwa b hlb hwb x⟩
  have P3 : Keep (∀ x : World, _) := ⟨fun x => frNeg_c a hla hwa x⟩
  have Q3 : Keep (∀ x : World, _) := ⟨fun x => refNeg_c4 a hla hwa x⟩
  have P4 : Keep (∀ x : World, _) := ⟨fun x => frMul_c a hla hwa b hlb hwb x⟩
  have Q4 : Keep (∀ x : World, _) := ⟨fun x => refMul_c4 a hla hwa b hlb hwb x⟩
  obtain ⟨x, hx⟩ : ∃ o, fr (num a) = o := ⟨_, rfl⟩
  have Lx : Keep (x.length = 4) := ⟨by rw [← hx]; exact fr_len _⟩
  have Ex := eq4 x Lx.out
  rw [hx] at P1 Q1
  clear hx
  obtain ⟨s, hs⟩ : ∃ o, fr (num a + num b) = o := ⟨_, rfl⟩
  have Ls : Keep (s.length = 4) := ⟨by rw [← hs]; exact fr_len _⟩
  have Es := eq4 s Ls.out
  rw [hs] at P2 Q2
  clear hs
  obtain ⟨n, hn⟩ : ∃ o, fr (-num a) = o := ⟨_, rfl⟩
  have Ln : Keep (n.length = 4) := ⟨by rw [← hn]; exact fr_len _⟩
  have En := eq4 n Ln.out
  rw [hn] at P3 Q3
  clear hn
  obtain ⟨m, hm⟩ : ∃ o, fr (num a * num b) = o := ⟨_, rfl⟩
  have Lm : Keep (m.length = 4) := ⟨by rw [← hm]; exact fr_len _⟩
  have Em := eq4 m Lm.out
  rw [hm] at P4 Q4
  clear hm
  have hgd := gd4
  have La : Keep (a.length = 4) := ⟨hla⟩
  have Va : Keep (Words a) := ⟨hwa⟩
  have Lb : Keep (b.length = 4) := ⟨hlb⟩
  have Vb : Keep (Words b) := ⟨hwb⟩
  have LZ : Keep (Z4.length = 4) := ⟨rfl⟩
  have LM : Keep (mL.length = 4) := ⟨rfl⟩
  obtain ⟨S, hS⟩ : ∃ S, w.heap.size = S := ⟨_, rfl⟩
  have qa0 : Has ((w.alloc (.cells (vals .u64 a) 25)).alloc (.cells (vals .u64 b) 25)) (S) 25 (vals .u64 a) := by exact ((Has.new' _ hS.symm _ _).alloc _)
  have qb0 : Has ((w.alloc (.cells (vals .u64 a) 25)).alloc (.cells (vals .u64 b) 25)) (S + 1) 25 (vals .u64 b) := by exact (Has.new' _ (by simp only [World.size_alloc, hS]) _ _)
  have hb0 : Below S w ((w.alloc (.cells (vals .u64 a) 25)).alloc (.cells (vals .u64 b) 25)) := by rw [← hS]; exact (((Below.refl _ _).alloc (Nat.le_refl _) _).alloc (by simp <;> omega) _)
  have hsz0 : ((w.alloc (.cells (vals .u64 a) 25)).alloc (.cells (vals .u64 b) 25)).heap.size = S + 2 := by simp only [World.size_alloc, hS]
  have HS0 : Keep (S ≤ w.heap.size) := ⟨by omega⟩
  have HSS : Keep (∀ x : World, Below S w x → S ≤ x.heap.size) := ⟨fun x hb => Nat.le_trans HS0.out hb.size⟩
  rw [hS]
  clear hla hwa hlb hwb
  go_enter Try.func4, Try.ntmps4
  go_wp2_with (first
    | (have hq0 := hb0
       clear hq0
       go_at_call 11
       refine (awake_c _).mono ?_
       rintro e w1 ⟨rfl, hq⟩
       have qa1 := qa0.keep hq
       have qb1 := qb0.keep hq
       have hb1 := hb0.trans (hq.mono (HSS.out _ hb0))
       clear hq hb0 qa0 qb0))
  refine wp_fam_all (by kernel_rfl) (by kernel_rfl) (fun I hI' fw hf hback => ?_)
  repeat (first
    | (go_big_quiet_want
       refine quiet_load_seg 25 (.tmp 2) (by rfl) (S) 0 4 (by rfl) 25 .u64 a a _ (fun w' ⟨i, hi⟩ => by rw [hi]; exact qa1.keep (hf i)) Try.underlying25 rfl (by kernel_rfl) (by rw [List.drop_zero, take_all La.out]) (by rw [La.out]; omega) ?_
       simp only [Act.put, List.setIfInBounds_toArray, List.set_cons_zero, List.set_cons_succ]
       go_big_quiet_on)
    | (go_big_quiet_want
       refine quiet_load_seg 25 (.tmp 3) (by rfl) (S + 1) 0 4 (by rfl) 25 .u64 b b _ (fun w' ⟨i, hi⟩ => by rw [hi]; exact qb1.keep (hf i)) Try.underlying25 rfl (by kernel_rfl) (by rw [List.drop_zero, take_all Lb.out]) (by rw [Lb.out]; omega) ?_
       simp only [Act.put, List.setIfInBounds_toArray, List.set_cons_zero, List.set_cons_succ]
       go_big_quiet_on)
    | go_big_quiet_step (first | fail | (go_at_call 14; with_reducible exact calls_fam hf hback (P1.out _)) | (go_at_call 15; with_reducible exact calls_fam hf hback (Q1.out _)) | (go_at_call 16; with_reducible exact calls_fam hf hback (P2.out _)) | (go_at_call 17; with_reducible exact calls_fam hf hback (Q2.out _)) | (go_at_call 18; with_reducible exact calls_fam hf hback (P3.out _)) | (go_at_call 19; with_reducible exact calls_fam hf hback (Q3.out _))))
  refine wpQuiet_nil ?_
  intro w2 hq
  have qa2 := qa1.keep hq
  have qb2 := qb1.keep hq
  have hb2 := hb1.trans (hq.mono (HSS.out _ hb1))
  clear hf hback hq hb1 qa1 qb1 
  go_wp2
  refine wp_fam_all (by kernel_rfl) (by kernel_rfl) (fun I hI' fw hf hback => ?_)
  repeat (first
    | (go_big_quiet_want
       refine quiet_load_seg 25 (.tmp 2) (by rfl) (S) 0 4 (by rfl) 25 .u64 a a _ (fun w' ⟨i, hi⟩ => by rw [hi]; exact qa2.keep (hf i)) Try.underlying25 rfl (by kernel_rfl) (by rw [List.drop_zero, take_all La.out]) (by rw [La.out]; omega) ?_
       simp only [Act.put, List.setIfInBounds_toArray, List.set_cons_zero, List.set_cons_succ]
       go_big_quiet_on)
    | (go_big_quiet_want
       refine quiet_load_seg 25 (.tmp 3) (by rfl) (S + 1) 0 4 (by rfl) 25 .u64 b b _ (fun w' ⟨i, hi⟩ => by rw [hi]; exact qb2.keep (hf i)) Try.underlying25 rfl (by kernel_rfl) (by rw [List.drop_zero, take_all Lb.out]) (by rw [Lb.out]; omega) ?_
       simp only [Act.put, List.setIfInBounds_toArray, List.set_cons_zero, List.set_cons_succ]
       go_big_quiet_on)
    | go_big_quiet_step (first | fail | (go_at_call 20; with_reducible exact calls_fam hf hback (P4.out _)) | (go_at_call 21; with_reducible exact calls_fam hf hback (Q4.out _))))
  refine wpQuiet_nil ?_
  intro w3 hq
  have qa3 := qa2.keep hq
  have qb3 := qb2.keep hq
  have hb3 := hb2.trans (hq.mono (HSS.out _ hb2))
  clear hf hback hq hb2 qa2 qb2 
  go_wp2
  go_ret
  exact ⟨rfl, hb3⟩

set_option maxRecDepth 100000 in
set_option maxHeartbeats 4000000 in
theorem inverts_w (a : List Int) (hla : a.length = 4) (hwa : Words a) (w : World) : Calls Try.prog 5 #[.agg (vals .u64 a)] w fun e w' => e = .returned (.bool true) ∧ Below w.heap.size w w' := by
  have P1 : Keep (∀ x : World, _) := ⟨fun x => frInv_c a hla hwa x⟩
  have Q1 : Keep (∀ x : World, _) := ⟨fun x => refInv_c4 a hla hwa x⟩
  obtain ⟨x, hx⟩ : ∃ o, fr (pw (num a) (RR - 2)) = o := ⟨_, rfl⟩
  have Lx : Keep (x.length = 4) := ⟨by rw [← hx]; exact fr_len _⟩
  have Ex := eq4 x Lx.out
  rw [hx] at P1 Q1
  clear hx
  have hgd := gd4
  have La : Keep (a.length = 4) := ⟨hla⟩
  have Va : Keep (Words a) := ⟨hwa⟩
  have LZ : Keep (Z4.length = 4) := ⟨rfl⟩
  have LM : Keep (mL.length = 4) := ⟨rfl⟩
  obtain ⟨S, hS⟩ : ∃ S, w.heap.size = S := ⟨_, rfl⟩
  have qa0 : Has (w.alloc (.cells (vals .u64 a) 25)) (S) 25 (vals .u64 a) := by exact (Has.new' _ hS.symm _ _)
  have hb0 : Below S w (w.alloc (.cells (vals .u64 a) 25)) := by rw [← hS]; exact ((Below.refl _ _).alloc (Nat.le_refl _) _)
  have hsz0 : (w.alloc (.cells (vals .u64 a) 25)).heap.size = S + 1 := by simp only [World.size_alloc, hS]
  have HS0 : Keep (S ≤ w.heap.size) := ⟨by omega⟩
  have HSS : Keep (∀ x : World, Below S w x → S ≤ x.heap.size) := ⟨fun x hb => Nat.le_trans HS0.out hb.size⟩
  rw [hS]
  clear hla hwa
  go_enter Try.func5, Try.ntmps5
  go_wp2_with (first
    | (have hq0 := hb0
       clear hq0
       go_at_call 11
       refine (awake_c _).mono ?_
       rintro e w1 ⟨rfl, hq⟩
       have qa1 := qa0.keep hq
       have hb1 := hb0.trans (hq.mono (HSS.out _ hb0))
       clear hq hb0 qa0))
  refine wp_fam_all (by kernel_rfl) (by kernel_rfl) (fun I hI' fw hf hback => ?_)
  repeat (first
    | (go_big_quiet_want
       refine quiet_load_seg 25 (.tmp 1) (by rfl) (S) 0 4 (by rfl) 25 .u64 a a _ (fun w' ⟨i, hi⟩ => by rw [hi]; exact qa1.keep (hf i)) Try.underlying25 rfl (by kernel_rfl) (by rw [List.drop_zero, take_all La.out]) (by rw [La.out]; omega) ?_
       simp only [Act.put, List.setIfInBounds_toArray, List.set_cons_zero, List.set_cons_succ]
       go_big_quiet_on)
    | go_big_quiet_step (first | fail | (go_at_call 22; with_reducible exact calls_fam hf hback (P1.out _)) | (go_at_call 23; with_reducible exact calls_fam hf hback (Q1.out _))))
  refine wpQuiet_nil ?_
  intro w2 hq
  have qa2 := qa1.keep hq
  have hb2 := hb1.trans (hq.mono (HSS.out _ hb1))
  clear hf hback hq hb1 qa1 
  go_wp2
  go_ret
  exact ⟨rfl, hb2⟩

/-- What both answer of bytes: four words and an error's number. -/
theorem fromBytes_both_ (A : Option Addr) (n c : Nat) (b : List Int) (hby : Bytes b) : ∃ (o : List Int) (z : Int), o.length = 4 ∧
    (∀ w', Rd w' w'.heap.size A n .u8 b → Calls Try.prog 24 #[.slice A n c] w' fun e w'' => e = .returned (.tuple #[.agg (vals .u64 o), .int .i64 z]) ∧ Below w'.heap.size w' w'') ∧
    (∀ w', Rd w' w'.heap.size A n .u8 b → Calls Try.prog 25 #[.slice A n c] w' fun e w'' => e = .returned (.tuple #[.agg (vals .u64 o), .int .i64 z]) ∧ Below w'.heap.size w' w'') := by
  by_cases hn : n = 32
  · subst hn
    by_cases hp : RR ≤ bnum b
    · exact ⟨Z4, 61, rfl, fun w' h => frFromBytes_range A c b _ w' h hby (Nat.le_refl _) hp, fun w' h => refFromBytes_range A c b _ w' h hby (Nat.le_refl _) hp⟩
    · exact ⟨fr (bnum b), 0, fr_len _, fun w' h => frFromBytes_ok A c b _ w' h hby (Nat.le_refl _) hp, fun w' h => refFromBytes_ok A c b _ w' h hby (Nat.le_refl _) hp⟩
  · exact ⟨Z4, 60, rfl, fun w' _ => frFromBytes_no A n c w' hn, fun w' _ => refFromBytes_no A n c w' hn⟩
theorem eq32 (l : List Int) (h : l.length = 32) : ∀ w : World, (Op.equalIn 10000 36 (.agg (vals .u8 l)) (.agg (vals .u8 l))).run Try.prog w = .ok true w := fun w => by
  rw [equalIn_vals (d := 9998) Try.underlying36 Try.underlying5 (by kernel_rfl) (by kernel_rfl) h h]
  simp
theorem gd32 : Try.prog.eqGuardType Try.prog.depth 36 = false := by kernel_rfl

set_option maxRecDepth 100000 in
set_option maxHeartbeats 4000000 in
theorem octets_big (a : List Int) (hla : a.length = 4) (hwa : Words a) (A : Option Addr) (n c : Nat) (b : List Int) (w : World) (hn : 300 < n) : Calls Try.prog 6 #[.agg (vals .u64 a), .slice A n c] w fun e w' => e = .returned (.bool true) ∧ Below w.heap.size w w' := by
  have La : Keep (a.length = 4) := ⟨hla⟩
  have Va : Keep (Words a) := ⟨hwa⟩
  have LZ : Keep (Z4.length = 4) := ⟨rfl⟩
  have LM : Keep (mL.length = 4) := ⟨rfl⟩
  obtain ⟨S, hS⟩ : ∃ S, w.heap.size = S := ⟨_, rfl⟩
  have qa0 : Has (w.alloc (.cells (vals .u64 a) 25)) (S) 25 (vals .u64 a) := by exact (Has.new' _ hS.symm _ _)
  have hb0 : Below S w (w.alloc (.cells (vals .u64 a) 25)) := by rw [← hS]; exact ((Below.refl _ _).alloc (Nat.le_refl _) _)
  have hsz0 : (w.alloc (.cells (vals .u64 a) 25)).heap.size = S + 1 := by simp only [World.size_alloc, hS]
  have HS0 : Keep (S ≤ w.heap.size) := ⟨by omega⟩
  have HSS : Keep (∀ x : World, Below S w x → S ≤ x.heap.size) := ⟨fun x hb => Nat.le_trans HS0.out hb.size⟩
  rw [hS]
  clear hla hwa
  go_enter Try.func6, Try.ntmps6
  go_wp2_with (first
    | (have hq0 := hb0
       clear hq0
       go_at_call 11
       refine (awake_c _).mono ?_
       rintro e w1 ⟨rfl, hq⟩
       have qa1 := qa0.keep hq
       have hb1 := hb0.trans (hq.mono (HSS.out _ hb0))
       clear hq hb0 qa0))
  go_ret
  exact ⟨rfl, hb1⟩

set_option maxRecDepth 100000 in
set_option maxHeartbeats 4000000 in
theorem octets_small (a : List Int) (hla : a.length = 4) (hwa : Words a) (A : Option Addr) (n c : Nat) (b : List Int) (w : World) (hr : Rd w w.heap.size A n .u8 b) (hby : Bytes b) (hn : n ≤ 300) : Calls Try.prog 6 #[.agg (vals .u64 a), .slice A n c] w fun e w' => e = .returned (.bool true) ∧ Below w.heap.size w w' := by
  obtain ⟨o, z, hlo, F1, F2⟩ := fromBytes_both_ A n c b hby
  have Lo : Keep (o.length = 4) := ⟨hlo⟩
  have P1 : Keep _ := ⟨F1⟩
  have P2 : Keep _ := ⟨F2⟩
  have Eo := eq4 o hlo
  clear hlo F1 F2
  obtain ⟨t, ht⟩ : ∃ t, octL (fr (num a)) 32 = t := ⟨_, rfl⟩
  have E2 := eq32 t (by rw [← ht]; exact octL_len _ _)
  have hgd2 := gd32
  have A1 : Keep (∀ x : World, _) := ⟨fun x => frBytes_c a hla hwa x⟩
  have A2 : Keep (∀ x : World, _) := ⟨fun x => refFrBytes_c a hla hwa x⟩
  rw [ht] at A1 A2
  clear ht
  obtain ⟨u, hu⟩ : ∃ o, fr (bnum b) = o := ⟨_, rfl⟩
  have Lu : Keep (u.length = 4) := ⟨by rw [← hu]; exact fr_len _⟩
  have Eu := eq4 u Lu.out
  have P3 : Keep (∀ w', Rd w' w'.heap.size A n .u8 b → Calls Try.prog 26 #[.slice A n c] w' fun e w'' => e = .returned (.agg (vals .u64 u)) ∧ Below w'.heap.size w' w'') := ⟨fun w' h => by
    rw [← hu]
    exact frFromOctets_c A n c b _ w' h hby (Nat.le_refl _) (by omega)⟩
  have P4 : Keep (∀ w', Rd w' w'.heap.size A n .u8 b → Calls Try.prog 27 #[.slice A n c] w' fun e w'' => e = .returned (.agg (vals .u64 u)) ∧ Below w'.heap.size w' w'') := ⟨fun w' h => by
    rw [← hu]
    exact refFromOctets_c A n c b _ w' h hby (Nat.le_refl _) (by omega)⟩
  clear hu
  have hgd := gd4
  have La : Keep (a.length = 4) := ⟨hla⟩
  have Va : Keep (Words a) := ⟨hwa⟩
  have LZ : Keep (Z4.length = 4) := ⟨rfl⟩
  have LM : Keep (mL.length = 4) := ⟨rfl⟩
  obtain ⟨S, hS⟩ : ∃ S, w.heap.size = S := ⟨_, rfl⟩
  have qa0 : Has (w.alloc (.cells (vals .u64 a) 25)) (S) 25 (vals .u64 a) := by exact (Has.new' _ hS.symm _ _)
  have hb0 : Below S w (w.alloc (.cells (vals .u64 a) 25)) := by rw [← hS]; exact ((Below.refl _ _).alloc (Nat.le_refl _) _)
  have hsz0 : (w.alloc (.cells (vals .u64 a) 25)).heap.size = S + 1 := by simp only [World.size_alloc, hS]
  have HS0 : Keep (S ≤ w.heap.size) := ⟨by omega⟩
  have HSS : Keep (∀ x : World, Below S w x → S ≤ x.heap.size) := ⟨fun x hb => Nat.le_trans HS0.out hb.size⟩
  rw [hS]
  have HRD : Keep (∀ x : World, Below S w x → Rd x x.heap.size A n .u8 b) := ⟨fun x hb => (hr.keep hb (by omega)).more (by have := HSS.out _ hb; omega)⟩
  clear hr hby
  clear hla hwa
  go_enter Try.func6, Try.ntmps6
  go_wp2_with (first
    | (refine store_abs2 (by rfl) 25 (.tmp 8) (.tmp 23) (by rfl) (by rfl) (w4.heap.size) (vals .u64 o) (by rfl) (by rfl) 25 (vals .u64 Z4) (Has.new' _ rfl _ _) (by rw [vals_size, Lo.out]; kernel_rfl) (by first | rfl | (rw [vals_size, vals_size, Lo.out]; rfl)) vals_one ?_
       intro w5 qy5 hkeep hbg
       have hbe := ((Below.refl (w4).heap.size (w4)).alloc (Nat.le_refl _) (.cells (vals .u64 Z4) 25)).trans hbg
       have Nay : Keep (S < w4.heap.size) := ⟨qa4.lt⟩
       have Nxy : Keep (w2.heap.size < w4.heap.size) := ⟨qx4.lt⟩
       have My : Keep (S ≤ w4.heap.size) := ⟨HSS.out _ hb4⟩
       have qa5 := qa4.keep hbe
       have qx5 := qx4.keep hbe
       have hb5 := hb4.trans (hbe.mono (HSS.out _ hb4))
       clear hkeep hbg hbe hb4 qa4 qx4)
    | (have hq0 := hb3
       clear hq0
       go_at_call 25
       refine (P2.out _ (HRD.out _ hb3)).mono ?_
       rintro e w4 ⟨rfl, hq⟩
       have qa4 := qa3.keep hq
       have qx4 := qx3.keep hq
       have hb4 := hb3.trans (hq.mono (HSS.out _ hb3))
       clear hq hb3 qa3 qx3)
    | (refine store_abs2 (by rfl) 25 (.tmp 6) (.tmp 18) (by rfl) (by rfl) (w2.heap.size) (vals .u64 o) (by rfl) (by rfl) 25 (vals .u64 Z4) (Has.new' _ rfl _ _) (by rw [vals_size, Lo.out]; kernel_rfl) (by first | rfl | (rw [vals_size, vals_size, Lo.out]; rfl)) vals_one ?_
       intro w3 qx3 hkeep hbg
       have hbe := ((Below.refl (w2).heap.size (w2)).alloc (Nat.le_refl _) (.cells (vals .u64 Z4) 25)).trans hbg
       have Nax : Keep (S < w2.heap.size) := ⟨qa2.lt⟩
       have Mx : Keep (S ≤ w2.heap.size) := ⟨HSS.out _ hb2⟩
       have qa3 := qa2.keep hbe
       have hb3 := hb2.trans (hbe.mono (HSS.out _ hb2))
       clear hkeep hbg hbe hb2 qa2)
    | (have hq0 := hb1
       clear hq0
       go_at_call 24
       refine (P1.out _ (HRD.out _ hb1)).mono ?_
       rintro e w2 ⟨rfl, hq⟩
       have qa2 := qa1.keep hq
       have hb2 := hb1.trans (hq.mono (HSS.out _ hb1))
       clear hq hb1 qa1)
    | (have hq0 := hb0
       clear hq0
       go_at_call 11
       refine (awake_c _).mono ?_
       rintro e w1 ⟨rfl, hq⟩
       have qa1 := qa0.keep hq
       have hb1 := hb0.trans (hq.mono (HSS.out _ hb0))
       clear hq hb0 qa0))
  have R3 := fun w' (h : Below w5.heap.size w5 w') => P3.out w' (HRD.out _ (hb5.trans (h.mono (HSS.out _ hb5))))
  have R3' : Keep _ := ⟨R3⟩
  clear R3
  have R4 := fun w' (h : Below w5.heap.size w5 w') => P4.out w' (HRD.out _ (hb5.trans (h.mono (HSS.out _ hb5))))
  have R4' : Keep _ := ⟨R4⟩
  clear R4
  refine wp_fam_all (by kernel_rfl) (by kernel_rfl) (fun I hI' fw hf hback => ?_)
  repeat (first
    | (go_big_quiet_want
       refine quiet_load_seg 25 (.tmp 2) (by rfl) (S) 0 4 (by rfl) 25 .u64 a a _ (fun w' ⟨i, hi⟩ => by rw [hi]; exact qa5.keep (hf i)) Try.underlying25 rfl (by kernel_rfl) (by rw [List.drop_zero, take_all La.out]) (by rw [La.out]; omega) ?_
       simp only [Act.put, List.setIfInBounds_toArray, List.set_cons_zero, List.set_cons_succ]
       go_big_quiet_on)
    | (go_big_quiet_want
       refine quiet_load_seg 25 (.tmp 6) (by rfl) (w2.heap.size) 0 4 (by rfl) 25 .u64 o o _ (fun w' ⟨i, hi⟩ => by rw [hi]; exact qx5.keep (hf i)) Try.underlying25 rfl (by kernel_rfl) (by rw [List.drop_zero, take_all Lo.out]) (by rw [Lo.out]; omega) ?_
       simp only [Act.put, List.setIfInBounds_toArray, List.set_cons_zero, List.set_cons_succ]
       go_big_quiet_on)
    | (go_big_quiet_want
       refine quiet_load_seg 25 (.tmp 8) (by rfl) (w4.heap.size) 0 4 (by rfl) 25 .u64 o o _ (fun w' ⟨i, hi⟩ => by rw [hi]; exact qy5.keep (hf i)) Try.underlying25 rfl (by kernel_rfl) (by rw [List.drop_zero, take_all Lo.out]) (by rw [Lo.out]; omega) ?_
       simp only [Act.put, List.setIfInBounds_toArray, List.set_cons_zero, List.set_cons_succ]
       go_big_quiet_on)
    | go_big_quiet_step (first | fail | (go_at_call 26; with_reducible exact calls_fam hf hback (R3'.out _ (hf _))) | (go_at_call 27; with_reducible exact calls_fam hf hback (R4'.out _ (hf _))) | (go_at_call 28; with_reducible exact calls_fam hf hback (A1.out _)) | (go_at_call 29; with_reducible exact calls_fam hf hback (A2.out _))))
  refine wpQuiet_nil ?_
  intro w6 hq
  have qa6 := qa5.keep hq
  have qx6 := qx5.keep hq
  have qy6 := qy5.keep hq
  have hb6 := hb5.trans (hq.mono (HSS.out _ hb5))
  clear hf hback hq hb5 qa5 qx5 qy5 
  go_wp2
  go_ret
  exact ⟨rfl, hb6⟩

theorem octets_w (a : List Int) (hla : a.length = 4) (hwa : Words a) (A : Option Addr) (n c : Nat) (b : List Int) (w : World) (h : Rd w w.heap.size A n .u8 b ∧ Bytes b) : Calls Try.prog 6 #[.agg (vals .u64 a), .slice A n c] w fun e w' => e = .returned (.bool true) ∧ Below w.heap.size w w' := by
  by_cases hn : n ≤ 300
  · exact octets_small a hla hwa A n c b w h.1 h.2 hn
  · exact octets_big a hla hwa A n c b w (by omega)

set_option maxRecDepth 100000 in
set_option maxHeartbeats 4000000 in
theorem field_zero (a : List Int) (hla : a.length = 4) (hwa : Words a) (b : List Int) (hlb : b.length = 4) (hwb : Words b) (c : List Int) (hlc : c.length = 4) (hwc : Words c) (w : World) (h : num a % RR = 0) : Calls Try.prog 8 #[.agg (vals .u64 a), .agg (vals .u64 b), .agg (vals .u64 c)] w fun e w' => e = .returned (.bool true) ∧ Below w.heap.size w w' := by
  have S1 : Keep (∀ x : World, _) := ⟨fun x => frAdd_c a hla hwa b hlb hwb x⟩
  have S2 : Keep (∀ x : World, _) := ⟨fun x => frAdd_c b hlb hwb a hla hwa x⟩
  rw [show num b + num a = num a + num b from Int.add_comm _ _] at S2
  have S3 : Keep (∀ x : World, _) := ⟨fun x => frAdd_c (fr (num a + num b)) (fr_len _) (fr_words _) c hlc hwc x⟩
  rw [fr_addl] at S3
  have S4 : Keep (∀ x : World, _) := ⟨fun x => frAdd_c b hlb hwb c hlc hwc x⟩
  have S5 : Keep (∀ x : World, _) := ⟨fun x => frAdd_c a hla hwa (fr (num b + num c)) (fr_len _) (fr_words _) x⟩
  rw [fr_addr, ← Int.add_assoc] at S5
  have M1 : Keep (∀ x : World, _) := ⟨fun x => frMul_c a hla hwa b hlb hwb x⟩
  have M2 : Keep (∀ x : World, _) := ⟨fun x => frMul_c b hlb hwb a hla hwa x⟩
  rw [show num b * num a = num a * num b from Int.mul_comm _ _] at M2
  have M3 : Keep (∀ x : World, _) := ⟨fun x => frMul_c (fr (num a * num b)) (fr_len _) (fr_words _) c hlc hwc x⟩
  rw [fr_mull] at M3
  have M4 : Keep (∀ x : World, _) := ⟨fun x => frMul_c b hlb hwb c hlc hwc x⟩
  have M5 : Keep (∀ x : World, _) := ⟨fun x => frMul_c a hla hwa (fr (num b * num c)) (fr_len _) (fr_words _) x⟩
  rw [fr_mulr, ← Int.mul_assoc] at M5
  have M6 : Keep (∀ x : World, _) := ⟨fun x => frMul_c a hla hwa (fr (num b + num c)) (fr_len _) (fr_words _) x⟩
  rw [fr_mulr] at M6
  have M7 : Keep (∀ x : World, _) := ⟨fun x => frMul_c a hla hwa c hlc hwc x⟩
  have S6 : Keep (∀ x : World, _) := ⟨fun x => frAdd_c (fr (num a * num b)) (fr_len _) (fr_words _) (fr (num a * num c)) (fr_len _) (fr_words _) x⟩
  rw [fr_addl, fr_addr, ← Int.mul_add] at S6
  have R1 : Keep (∀ x : World, _) := ⟨fun x => frReduce_c a hla hwa x⟩
  have I1 : Keep (∀ x : World, _) := ⟨fun x => frInv_c a hla hwa x⟩
  have N1 : Keep (∀ x : World, _) := ⟨fun x => frNeg_c a hla hwa x⟩
  have S7 : Keep (∀ x : World, _) := ⟨fun x => frAdd_c a hla hwa (fr (-num a)) (fr_len _) (fr_words _) x⟩
  rw [fr_addr, Int.add_right_neg, fr_zero] at S7
  have M8 : Keep (∀ x : World, _) := ⟨fun x => frMul_c a hla hwa [1, 0, 0, 0] rfl w4_1 x⟩
  rw [num_one, Int.mul_one] at M8
  have h5 : fr (num a) = Z4 := by rw [← fr_zero]; exact (fr_zero_iff _).2 h
  have h6 : fr (pw (num a) (RR - 2)) = Z4 := by rw [fr_inv_zero h, fr_zero]
  rw [h5] at R1 M8
  rw [h6] at I1
  obtain ⟨s, hs⟩ : ∃ o, fr (num a + num b) = o := ⟨_, rfl⟩
  have Ls : Keep (s.length = 4) := ⟨by rw [← hs]; exact fr_len _⟩
  have Es := eq4 s Ls.out
  rw [hs] at S1 S2 S3
  clear hs
  obtain ⟨t, ht⟩ : ∃ o, fr (num b + num c) = o := ⟨_, rfl⟩
  have Lt : Keep (t.length = 4) := ⟨by rw [← ht]; exact fr_len _⟩
  have Et := eq4 t Lt.out
  rw [ht] at S4 S5 M6
  clear ht
  obtain ⟨u, hu⟩ : ∃ o, fr (num a + num b + num c) = o := ⟨_, rfl⟩
  have Lu : Keep (u.length = 4) := ⟨by rw [← hu]; exact fr_len _⟩
  have Eu := eq4 u Lu.out
  rw [hu] at S3 S5
  clear hu
  obtain ⟨m, hm⟩ : ∃ o, fr (num a * num b) = o := ⟨_, rfl⟩
  have Lm : Keep (m.length = 4) := ⟨by rw [← hm]; exact fr_len _⟩
  have Em := eq4 m Lm.out
  rw [hm] at M1 M2 M3 S6
  clear hm
  obtain ⟨n, hn⟩ : ∃ o, fr (num b * num c) = o := ⟨_, rfl⟩
  have Ln : Keep (n.length = 4) := ⟨by rw [← hn]; exact fr_len _⟩
  have En := eq4 n Ln.out
  rw [hn] at M4 M5
  clear hn
  obtain ⟨p, hp⟩ : ∃ o, fr (num a * num b * num c) = o := ⟨_, rfl⟩
  have Lp : Keep (p.length = 4) := ⟨by rw [← hp]; exact fr_len _⟩
  have Ep := eq4 p Lp.out
  rw [hp] at M3 M5
  clear hp
  obtain ⟨k, hk⟩ : ∃ o, fr (num a * (num b + num c)) = o := ⟨_, rfl⟩
  have Lk : Keep (k.length = 4) := ⟨by rw [← hk]; exact fr_len _⟩
  have Ek := eq4 k Lk.out
  rw [hk] at M6 S6
  clear hk
  obtain ⟨r, hr⟩ : ∃ o, fr (num a * num c) = o := ⟨_, rfl⟩
  have Lr : Keep (r.length = 4) := ⟨by rw [← hr]; exact fr_len _⟩
  have Er := eq4 r Lr.out
  rw [hr] at M7 S6
  clear hr
  obtain ⟨g, hg⟩ : ∃ o, fr (-num a) = o := ⟨_, rfl⟩
  have Lg : Keep (g.length = 4) := ⟨by rw [← hg]; exact fr_len _⟩
  have Eg := eq4 g Lg.out
  rw [hg] at N1 S7
  clear hg
  clear h5 h6
  have EZ := eq4 Z4 rfl
  have hgd := gd4
  have La : Keep (a.length = 4) := ⟨hla⟩
  have Va : Keep (Words a) := ⟨hwa⟩
  have Lb : Keep (b.length = 4) := ⟨hlb⟩
  have Vb : Keep (Words b) := ⟨hwb⟩
  have Lc : Keep (c.length = 4) := ⟨hlc⟩
  have Vc : Keep (Words c) := ⟨hwc⟩
  have LZ : Keep (Z4.length = 4) := ⟨rfl⟩
  have LM : Keep (mL.length = 4) := ⟨rfl⟩
  obtain ⟨S, hS⟩ : ∃ S, w.heap.size = S := ⟨_, rfl⟩
  have qa0 : Has (((w.alloc (.cells (vals .u64 a) 25)).alloc (.cells (vals .u64 b) 25)).alloc (.cells (vals .u64 c) 25)) (S) 25 (vals .u64 a) := by exact (((Has.new' _ hS.symm _ _).alloc _).alloc _)
  have qb0 : Has (((w.alloc (.cells (vals .u64 a) 25)).alloc (.cells (vals .u64 b) 25)).alloc (.cells (vals .u64 c) 25)) (S + 1) 25 (vals .u64 b) := by exact ((Has.new' _ (by simp only [World.size_alloc, hS]) _ _).alloc _)
  have qc0 : Has (((w.alloc (.cells (vals .u64 a) 25)).alloc (.cells (vals .u64 b) 25)).alloc (.cells (vals .u64 c) 25)) (S + 2) 25 (vals .u64 c) := by exact (Has.new' _ (by simp only [World.size_alloc, hS]) _ _)
  have hb0 : Below S w (((w.alloc (.cells (vals .u64 a) 25)).alloc (.cells (vals .u64 b) 25)).alloc (.cells (vals .u64 c) 25)) := by rw [← hS]; exact ((((Below.refl _ _).alloc (Nat.le_refl _) _).alloc (by simp <;> omega) _).alloc (by simp <;> omega) _)
  have hsz0 : (((w.alloc (.cells (vals .u64 a) 25)).alloc (.cells (vals .u64 b) 25)).alloc (.cells (vals .u64 c) 25)).heap.size = S + 3 := by simp only [World.size_alloc, hS]
  have HS0 : Keep (S ≤ w.heap.size) := ⟨by omega⟩
  have HSS : Keep (∀ x : World, Below S w x → S ≤ x.heap.size) := ⟨fun x hb => Nat.le_trans HS0.out hb.size⟩
  rw [hS]
  clear h
  clear hla hwa hlb hwb hlc hwc
  go_enter Try.func8, Try.ntmps8
  go_wp2_with (first
    | (have hq0 := hb0
       clear hq0
       go_at_call 11
       refine (awake_c _).mono ?_
       rintro e w1 ⟨rfl, hq⟩
       have qa1 := qa0.keep hq
       have qb1 := qb0.keep hq
       have qc1 := qc0.keep hq
       have hb1 := hb0.trans (hq.mono (HSS.out _ hb0))
       clear hq hb0 qa0 qb0 qc0))
  refine wp_fam_all (by kernel_rfl) (by kernel_rfl) (fun I hI' fw hf hback => ?_)
  repeat (first
    | (go_big_quiet_want
       refine quiet_load_seg 25 (.tmp 3) (by rfl) (S) 0 4 (by rfl) 25 .u64 a a _ (fun w' ⟨i, hi⟩ => by rw [hi]; exact qa1.keep (hf i)) Try.underlying25 rfl (by kernel_rfl) (by rw [List.drop_zero, take_all La.out]) (by rw [La.out]; omega) ?_
       simp only [Act.put, List.setIfInBounds_toArray, List.set_cons_zero, List.set_cons_succ]
       go_big_quiet_on)
    | (go_big_quiet_want
       refine quiet_load_seg 25 (.tmp 4) (by rfl) (S + 1) 0 4 (by rfl) 25 .u64 b b _ (fun w' ⟨i, hi⟩ => by rw [hi]; exact qb1.keep (hf i)) Try.underlying25 rfl (by kernel_rfl) (by rw [List.drop_zero, take_all Lb.out]) (by rw [Lb.out]; omega) ?_
       simp only [Act.put, List.setIfInBounds_toArray, List.set_cons_zero, List.set_cons_succ]
       go_big_quiet_on)
    | (go_big_quiet_want
       refine quiet_load_seg 25 (.tmp 5) (by rfl) (S + 2) 0 4 (by rfl) 25 .u64 c c _ (fun w' ⟨i, hi⟩ => by rw [hi]; exact qc1.keep (hf i)) Try.underlying25 rfl (by kernel_rfl) (by rw [List.drop_zero, take_all Lc.out]) (by rw [Lc.out]; omega) ?_
       simp only [Act.put, List.setIfInBounds_toArray, List.set_cons_zero, List.set_cons_succ]
       go_big_quiet_on)
    | go_big_quiet_step (first | fail | (go_at_call 16; with_reducible exact calls_fam hf hback (S1.out _)) | (go_at_call 16; with_reducible exact calls_fam hf hback (S2.out _)) | (go_at_call 16; with_reducible exact calls_fam hf hback (S3.out _)) | (go_at_call 16; with_reducible exact calls_fam hf hback (S4.out _)) | (go_at_call 16; with_reducible exact calls_fam hf hback (S5.out _)) | (go_at_call 20; with_reducible exact calls_fam hf hback (M1.out _)) | (go_at_call 20; with_reducible exact calls_fam hf hback (M2.out _))))
  refine wpQuiet_nil ?_
  intro w2 hq
  have qa2 := qa1.keep hq
  have qb2 := qb1.keep hq
  have qc2 := qc1.keep hq
  have hb2 := hb1.trans (hq.mono (HSS.out _ hb1))
  clear hf hback hq hb1 qa1 qb1 qc1 
  go_wp2
  refine wp_fam_all (by kernel_rfl) (by kernel_rfl) (fun I hI' fw hf hback => ?_)
  repeat (first
    | (go_big_quiet_want
       refine quiet_load_seg 25 (.tmp 3) (by rfl) (S) 0 4 (by rfl) 25 .u64 a a _ (fun w' ⟨i, hi⟩ => by rw [hi]; exact qa2.keep (hf i)) Try.underlying25 rfl (by kernel_rfl) (by rw [List.drop_zero, take_all La.out]) (by rw [La.out]; omega) ?_
       simp only [Act.put, List.setIfInBounds_toArray, List.set_cons_zero, List.set_cons_succ]
       go_big_quiet_on)
    | (go_big_quiet_want
       refine quiet_load_seg 25 (.tmp 4) (by rfl) (S + 1) 0 4 (by rfl) 25 .u64 b b _ (fun w' ⟨i, hi⟩ => by rw [hi]; exact qb2.keep (hf i)) Try.underlying25 rfl (by kernel_rfl) (by rw [List.drop_zero, take_all Lb.out]) (by rw [Lb.out]; omega) ?_
       simp only [Act.put, List.setIfInBounds_toArray, List.set_cons_zero, List.set_cons_succ]
       go_big_quiet_on)
    | (go_big_quiet_want
       refine quiet_load_seg 25 (.tmp 5) (by rfl) (S + 2) 0 4 (by rfl) 25 .u64 c c _ (fun w' ⟨i, hi⟩ => by rw [hi]; exact qc2.keep (hf i)) Try.underlying25 rfl (by kernel_rfl) (by rw [List.drop_zero, take_all Lc.out]) (by rw [Lc.out]; omega) ?_
       simp only [Act.put, List.setIfInBounds_toArray, List.set_cons_zero, List.set_cons_succ]
       go_big_quiet_on)
    | go_big_quiet_step (first | fail | (go_at_call 16; with_reducible exact calls_fam hf hback (S4.out _)) | (go_at_call 16; with_reducible exact calls_fam hf hback (S6.out _)) | (go_at_call 20; with_reducible exact calls_fam hf hback (M1.out _)) | (go_at_call 20; with_reducible exact calls_fam hf hback (M3.out _)) | (go_at_call 20; with_reducible exact calls_fam hf hback (M4.out _)) | (go_at_call 20; with_reducible exact calls_fam hf hback (M5.out _)) | (go_at_call 20; with_reducible exact calls_fam hf hback (M6.out _)) | (go_at_call 20; with_reducible exact calls_fam hf hback (M7.out _))))
  refine wpQuiet_nil ?_
  intro w3 hq
  have qa3 := qa2.keep hq
  have qb3 := qb2.keep hq
  have qc3 := qc2.keep hq
  have hb3 := hb2.trans (hq.mono (HSS.out _ hb2))
  clear hf hback hq hb2 qa2 qb2 qc2 
  go_wp2_with (first
    | (refine wpList_free_at 78 (by rfl) (by rfl) ?_; refine wpList_buildTo (by rfl) 25 #[] (by rfl) (some 78) (by rfl) (vals .u64 Z4) (by kernel_rfl) ?_
       dsimp only
       go_wp2)
    | (refine wpList_free_at 77 (by rfl) (by rfl) ?_; refine wpList_load_row rfl 25 (.tmp 11) rfl (w6.heap.size) rfl _ _ _ _ qi7.eq Try.underlying25 rfl (by rw [vals_size, LZ.out]; kernel_rfl) ?_)
    | (refine wpList_buildTo (by rfl) 25 #[] (by rfl) (some 74) (by rfl) (vals .u64 Z4) (by kernel_rfl) ?_)
    | (refine wpList_load_row rfl 25 (.tmp 10) rfl (w4.heap.size) rfl _ _ _ _ qx7.eq Try.underlying25 rfl (by rw [vals_size, LZ.out]; kernel_rfl) ?_)
    | (refine store_abs2 (by rfl) 25 (.tmp 11) (.tmp 72) (by rfl) (by rfl) (w6.heap.size) (vals .u64 Z4) (by rfl) (by rfl) 25 (vals .u64 Z4) (Has.new' _ rfl _ _) (by rw [vals_size, LZ.out]; kernel_rfl) (by first | rfl | (rw [vals_size, vals_size, LZ.out]; rfl)) vals_one ?_
       intro w7 qi7 hkeep hbg
       have hbe := ((Below.refl (w6).heap.size (w6)).alloc (Nat.le_refl _) (.cells (vals .u64 Z4) 25)).trans hbg
       have Nai : Keep (S < w6.heap.size) := ⟨qa6.lt⟩
       have Nbi : Keep (S + 1 < w6.heap.size) := ⟨qb6.lt⟩
       have Nci : Keep (S + 2 < w6.heap.size) := ⟨qc6.lt⟩
       have Nxi : Keep (w4.heap.size < w6.heap.size) := ⟨qx6.lt⟩
       have Mi : Keep (S ≤ w6.heap.size) := ⟨HSS.out _ hb6⟩
       have qa7 := qa6.keep hbe
       have qb7 := qb6.keep hbe
       have qc7 := qc6.keep hbe
       have qx7 := qx6.keep hbe
       have hb7 := hb6.trans (hbe.mono (HSS.out _ hb6))
       clear hkeep hbg hbe hb6 qa6 qb6 qc6 qx6)
    | (have hq0 := hb5
       clear hq0
       go_at_call 22
       refine (I1.out _).mono ?_
       rintro e w6 ⟨rfl, hq⟩
       have qa6 := qa5.keep hq
       have qb6 := qb5.keep hq
       have qc6 := qc5.keep hq
       have qx6 := qx5.keep hq
       have hb6 := hb5.trans (hq.mono (HSS.out _ hb5))
       clear hq hb5 qa5 qb5 qc5 qx5)
    | (refine wpList_load_row rfl 25 (.tmp 3) rfl (S) rfl _ _ _ _ qa5.eq Try.underlying25 rfl (by rw [vals_size, La.out]; kernel_rfl) ?_)
    | (refine store_abs2 (by rfl) 25 (.tmp 10) (.tmp 70) (by rfl) (by rfl) (w4.heap.size) (vals .u64 Z4) (by rfl) (by rfl) 25 (vals .u64 Z4) (Has.new' _ rfl _ _) (by rw [vals_size, LZ.out]; kernel_rfl) (by first | rfl | (rw [vals_size, vals_size, LZ.out]; rfl)) vals_one ?_
       intro w5 qx5 hkeep hbg
       have hbe := ((Below.refl (w4).heap.size (w4)).alloc (Nat.le_refl _) (.cells (vals .u64 Z4) 25)).trans hbg
       have Nax : Keep (S < w4.heap.size) := ⟨qa4.lt⟩
       have Nbx : Keep (S + 1 < w4.heap.size) := ⟨qb4.lt⟩
       have Ncx : Keep (S + 2 < w4.heap.size) := ⟨qc4.lt⟩
       have Mx : Keep (S ≤ w4.heap.size) := ⟨HSS.out _ hb4⟩
       have qa5 := qa4.keep hbe
       have qb5 := qb4.keep hbe
       have qc5 := qc4.keep hbe
       have hb5 := hb4.trans (hbe.mono (HSS.out _ hb4))
       clear hkeep hbg hbe hb4 qa4 qb4 qc4)
    | (have hq0 := hb3
       clear hq0
       go_at_call 14
       refine (R1.out _).mono ?_
       rintro e w4 ⟨rfl, hq⟩
       have qa4 := qa3.keep hq
       have qb4 := qb3.keep hq
       have qc4 := qc3.keep hq
       have hb4 := hb3.trans (hq.mono (HSS.out _ hb3))
       clear hq hb3 qa3 qb3 qc3)
    | (refine wpList_load_row rfl 25 (.tmp 3) rfl (S) rfl _ _ _ _ qa3.eq Try.underlying25 rfl (by rw [vals_size, La.out]; kernel_rfl) ?_))
  refine wp_fam_all (by kernel_rfl) (by kernel_rfl) (fun I hI' fw hf hback => ?_)
  repeat (first
    | (go_big_quiet_want
       refine quiet_load_seg 25 (.tmp 3) (by rfl) (S) 0 4 (by rfl) 25 .u64 a a _ (fun w' ⟨i, hi⟩ => by rw [hi]; exact qa7.keep (hf i)) Try.underlying25 rfl (by kernel_rfl) (by rw [List.drop_zero, take_all La.out]) (by rw [La.out]; omega) ?_
       simp only [Act.put, List.setIfInBounds_toArray, List.set_cons_zero, List.set_cons_succ]
       go_big_quiet_on)
    | (go_big_quiet_want
       refine quiet_load_seg 25 (.tmp 10) (by rfl) (w4.heap.size) 0 4 (by rfl) 25 .u64 Z4 Z4 _ (fun w' ⟨i, hi⟩ => by rw [hi]; exact qx7.keep (hf i)) Try.underlying25 rfl (by kernel_rfl) (by rw [List.drop_zero, take_all LZ.out]) (by rw [LZ.out]; omega) ?_
       simp only [Act.put, List.setIfInBounds_toArray, List.set_cons_zero, List.set_cons_succ]
       go_big_quiet_on)
    | (go_big_quiet_want
       refine quiet_build 25 #[] (by rfl) (vals .u64 Z4) (by kernel_rfl) ?_
       simp only [Act.put, List.setIfInBounds_toArray, List.set_cons_zero, List.set_cons_succ]
       go_big_quiet_on)
    | (go_big_quiet_want
       refine quiet_build 25 #[(0, .const (.int .u64 1))] (by rfl) (vals .u64 [1, 0, 0, 0]) (by kernel_rfl) ?_
       simp only [Act.put, List.setIfInBounds_toArray, List.set_cons_zero, List.set_cons_succ]
       go_big_quiet_on)
    | go_big_quiet_step (first | fail | (go_at_call 18; with_reducible exact calls_fam hf hback (N1.out _)) | (go_at_call 16; with_reducible exact calls_fam hf hback (S7.out _)) | (go_at_call 20; with_reducible exact calls_fam hf hback (M8.out _))))
  refine wpQuiet_nil ?_
  intro w8 hq
  have qa8 := qa7.keep hq
  have qb8 := qb7.keep hq
  have qc8 := qc7.keep hq
  have qx8 := qx7.keep hq
  have qi8 := qi7.keep hq
  have hb8 := hb7.trans (hq.mono (HSS.out _ hb7))
  clear hf hback hq hb7 qa7 qb7 qc7 qx7 qi7 
  go_wp2
  go_ret
  exact ⟨rfl, hb8⟩

set_option maxRecDepth 100000 in
set_option maxHeartbeats 4000000 in
theorem field_some (a : List Int) (hla : a.length = 4) (hwa : Words a) (b : List Int) (hlb : b.length = 4) (hwb : Words b) (c : List Int) (hlc : c.length = 4) (hwc : Words c) (w : World) (h : num a % RR ≠ 0) : Calls Try.prog 8 #[.agg (vals .u64 a), .agg (vals .u64 b), .agg (vals .u64 c)] w fun e w' => e = .returned (.bool true) ∧ Below w.heap.size w w' := by
  have S1 : Keep (∀ x : World, _) := ⟨fun x => frAdd_c a hla hwa b hlb hwb x⟩
  have S2 : Keep (∀ x : World, _) := ⟨fun x => frAdd_c b hlb hwb a hla hwa x⟩
  rw [show num b + num a = num a + num b from Int.add_comm _ _] at S2
  have S3 : Keep (∀ x : World, _) := ⟨fun x => frAdd_c (fr (num a + num b)) (fr_len _) (fr_words _) c hlc hwc x⟩
  rw [fr_addl] at S3
  have S4 : Keep (∀ x : World, _) := ⟨fun x => frAdd_c b hlb hwb c hlc hwc x⟩
  have S5 : Keep (∀ x : World, _) := ⟨fun x => frAdd_c a hla hwa (fr (num b + num c)) (fr_len _) (fr_words _) x⟩
  rw [fr_addr, ← Int.add_assoc] at S5
  have M1 : Keep (∀ x : World, _) := ⟨fun x => frMul_c a hla hwa b hlb hwb x⟩
  have M2 : Keep (∀ x : World, _) := ⟨fun x => frMul_c b hlb hwb a hla hwa x⟩
  rw [show num b * num a = num a * num b from Int.mul_comm _ _] at M2
  have M3 : Keep (∀ x : World, _) := ⟨fun x => frMul_c (fr (num a * num b)) (fr_len _) (fr_words _) c hlc hwc x⟩
  rw [fr_mull] at M3
  have M4 : Keep (∀ x : World, _) := ⟨fun x => frMul_c b hlb hwb c hlc hwc x⟩
  have M5 : Keep (∀ x : World, _) := ⟨fun x => frMul_c a hla hwa (fr (num b * num c)) (fr_len _) (fr_words _) x⟩
  rw [fr_mulr, ← Int.mul_assoc] at M5
  have M6 : Keep (∀ x : World, _) := ⟨fun x => frMul_c a hla hwa (fr (num b + num c)) (fr_len _) (fr_words _) x⟩
  rw [fr_mulr] at M6
  have M7 : Keep (∀ x : World, _) := ⟨fun x => frMul_c a hla hwa c hlc hwc x⟩
  have S6 : Keep (∀ x : World, _) := ⟨fun x => frAdd_c (fr (num a * num b)) (fr_len _) (fr_words _) (fr (num a * num c)) (fr_len _) (fr_words _) x⟩
  rw [fr_addl, fr_addr, ← Int.mul_add] at S6
  have R1 : Keep (∀ x : World, _) := ⟨fun x => frReduce_c a hla hwa x⟩
  have I1 : Keep (∀ x : World, _) := ⟨fun x => frInv_c a hla hwa x⟩
  have N1 : Keep (∀ x : World, _) := ⟨fun x => frNeg_c a hla hwa x⟩
  have S7 : Keep (∀ x : World, _) := ⟨fun x => frAdd_c a hla hwa (fr (-num a)) (fr_len _) (fr_words _) x⟩
  rw [fr_addr, Int.add_right_neg, fr_zero] at S7
  have M8 : Keep (∀ x : World, _) := ⟨fun x => frMul_c a hla hwa [1, 0, 0, 0] rfl w4_1 x⟩
  rw [num_one, Int.mul_one] at M8
  have M9 : Keep (∀ x : World, _) := ⟨fun x => frMul_c a hla hwa (fr (pw (num a) (RR - 2))) (fr_len _) (fr_words _) x⟩
  rw [fr_inv h, fr_one] at M9
  have hne : fr (num a) ≠ Z4 := fun e => h ((fr_zero_iff _).1 (by rw [fr_zero]; exact e))
  obtain ⟨s, hs⟩ : ∃ o, fr (num a + num b) = o := ⟨_, rfl⟩
  have Ls : Keep (s.length = 4) := ⟨by rw [← hs]; exact fr_len _⟩
  have Es := eq4 s Ls.out
  rw [hs] at S1 S2 S3
  clear hs
  obtain ⟨t, ht⟩ : ∃ o, fr (num b + num c) = o := ⟨_, rfl⟩
  have Lt : Keep (t.length = 4) := ⟨by rw [← ht]; exact fr_len _⟩
  have Et := eq4 t Lt.out
  rw [ht] at S4 S5 M6
  clear ht
  obtain ⟨u, hu⟩ : ∃ o, fr (num a + num b + num c) = o := ⟨_, rfl⟩
  have Lu : Keep (u.length = 4) := ⟨by rw [← hu]; exact fr_len _⟩
  have Eu := eq4 u Lu.out
  rw [hu] at S3 S5
  clear hu
  obtain ⟨m, hm⟩ : ∃ o, fr (num a * num b) = o := ⟨_, rfl⟩
  have Lm : Keep (m.length = 4) := ⟨by rw [← hm]; exact fr_len _⟩
  have Em := eq4 m Lm.out
  rw [hm] at M1 M2 M3 S6
  clear hm
  obtain ⟨n, hn⟩ : ∃ o, fr (num b * num c) = o := ⟨_, rfl⟩
  have Ln : Keep (n.length = 4) := ⟨by rw [← hn]; exact fr_len _⟩
  have En := eq4 n Ln.out
  rw [hn] at M4 M5
  clear hn
  obtain ⟨p, hp⟩ : ∃ o, fr (num a * num b * num c) = o := ⟨_, rfl⟩
  have Lp : Keep (p.length = 4) := ⟨by rw [← hp]; exact fr_len _⟩
  have Ep := eq4 p Lp.out
  rw [hp] at M3 M5
  clear hp
  obtain ⟨k, hk⟩ : ∃ o, fr (num a * (num b + num c)) = o := ⟨_, rfl⟩
  have Lk : Keep (k.length = 4) := ⟨by rw [← hk]; exact fr_len _⟩
  have Ek := eq4 k Lk.out
  rw [hk] at M6 S6
  clear hk
  obtain ⟨r, hr⟩ : ∃ o, fr (num a * num c) = o := ⟨_, rfl⟩
  have Lr : Keep (r.length = 4) := ⟨by rw [← hr]; exact fr_len _⟩
  have Er := eq4 r Lr.out
  rw [hr] at M7 S6
  clear hr
  obtain ⟨g, hg⟩ : ∃ o, fr (-num a) = o := ⟨_, rfl⟩
  have Lg : Keep (g.length = 4) := ⟨by rw [← hg]; exact fr_len _⟩
  have Eg := eq4 g Lg.out
  rw [hg] at N1 S7
  clear hg
  obtain ⟨x, hx⟩ : ∃ o, fr (num a) = o := ⟨_, rfl⟩
  have Lx : Keep (x.length = 4) := ⟨by rw [← hx]; exact fr_len _⟩
  have Ex := eq4 x Lx.out
  rw [hx] at R1 M8 hne
  clear hx
  obtain ⟨i, hi⟩ : ∃ o, fr (pw (num a) (RR - 2)) = o := ⟨_, rfl⟩
  have Li : Keep (i.length = 4) := ⟨by rw [← hi]; exact fr_len _⟩
  have Ei := eq4 i Li.out
  rw [hi] at I1 M9
  clear hi
  have EN : ∀ w : World, (Op.equalIn 10000 25 (.agg (vals .u64 x)) (.agg (vals .u64 Z4))).run Try.prog w = .ok false w := fun w => by rw [eqn4 x Z4 Lx.out rfl, decide_eq_false hne]
  have E1 := eq4 [1, 0, 0, 0] rfl
  clear hne
  have EZ := eq4 Z4 rfl
  have hgd := gd4
  have La : Keep (a.length = 4) := ⟨hla⟩
  have Va : Keep (Words a) := ⟨hwa⟩
  have Lb : Keep (b.length = 4) := ⟨hlb⟩
  have Vb : Keep (Words b) := ⟨hwb⟩
  have Lc : Keep (c.length = 4) := ⟨hlc⟩
  have Vc : Keep (Words c) := ⟨hwc⟩
  have LZ : Keep (Z4.length = 4) := ⟨rfl⟩
  have LM : Keep (mL.length = 4) := ⟨rfl⟩
  obtain ⟨S, hS⟩ : ∃ S, w.heap.size = S := ⟨_, rfl⟩
  have qa0 : Has (((w.alloc (.cells (vals .u64 a) 25)).alloc (.cells (vals .u64 b) 25)).alloc (.cells (vals .u64 c) 25)) (S) 25 (vals .u64 a) := by exact (((Has.new' _ hS.symm _ _).alloc _).alloc _)
  have qb0 : Has (((w.alloc (.cells (vals .u64 a) 25)).alloc (.cells (vals .u64 b) 25)).alloc (.cells (vals .u64 c) 25)) (S + 1) 25 (vals .u64 b) := by exact ((Has.new' _ (by simp only [World.size_alloc, hS]) _ _).alloc _)
  have qc0 : Has (((w.alloc (.cells (vals .u64 a) 25)).alloc (.cells (vals .u64 b) 25)).alloc (.cells (vals .u64 c) 25)) (S + 2) 25 (vals .u64 c) := by exact (Has.new' _ (by simp only [World.size_alloc, hS]) _ _)
  have hb0 : Below S w (((w.alloc (.cells (vals .u64 a) 25)).alloc (.cells (vals .u64 b) 25)).alloc (.cells (vals .u64 c) 25)) := by rw [← hS]; exact ((((Below.refl _ _).alloc (Nat.le_refl _) _).alloc (by simp <;> omega) _).alloc (by simp <;> omega) _)
  have hsz0 : (((w.alloc (.cells (vals .u64 a) 25)).alloc (.cells (vals .u64 b) 25)).alloc (.cells (vals .u64 c) 25)).heap.size = S + 3 := by simp only [World.size_alloc, hS]
  have HS0 : Keep (S ≤ w.heap.size) := ⟨by omega⟩
  have HSS : Keep (∀ x : World, Below S w x → S ≤ x.heap.size) := ⟨fun x hb => Nat.le_trans HS0.out hb.size⟩
  rw [hS]
  clear h
  clear hla hwa hlb hwb hlc hwc
  go_enter Try.func8, Try.ntmps8
  go_wp2_with (first
    | (have hq0 := hb0
       clear hq0
       go_at_call 11
       refine (awake_c _).mono ?_
       rintro e w1 ⟨rfl, hq⟩
       have qa1 := qa0.keep hq
       have qb1 := qb0.keep hq
       have qc1 := qc0.keep hq
       have hb1 := hb0.trans (hq.mono (HSS.out _ hb0))
       clear hq hb0 qa0 qb0 qc0))
  refine wp_fam_all (by kernel_rfl) (by kernel_rfl) (fun I hI' fw hf hback => ?_)
  repeat (first
    | (go_big_quiet_want
       refine quiet_load_seg 25 (.tmp 3) (by rfl) (S) 0 4 (by rfl) 25 .u64 a a _ (fun w' ⟨i, hi⟩ => by rw [hi]; exact qa1.keep (hf i)) Try.underlying25 rfl (by kernel_rfl) (by rw [List.drop_zero, take_all La.out]) (by rw [La.out]; omega) ?_
       simp only [Act.put, List.setIfInBounds_toArray, List.set_cons_zero, List.set_cons_succ]
       go_big_quiet_on)
    | (go_big_quiet_want
       refine quiet_load_seg 25 (.tmp 4) (by rfl) (S + 1) 0 4 (by rfl) 25 .u64 b b _ (fun w' ⟨i, hi⟩ => by rw [hi]; exact qb1.keep (hf i)) Try.underlying25 rfl (by kernel_rfl) (by rw [List.drop_zero, take_all Lb.out]) (by rw [Lb.out]; omega) ?_
       simp only [Act.put, List.setIfInBounds_toArray, List.set_cons_zero, List.set_cons_succ]
       go_big_quiet_on)
    | (go_big_quiet_want
       refine quiet_load_seg 25 (.tmp 5) (by rfl) (S + 2) 0 4 (by rfl) 25 .u64 c c _ (fun w' ⟨i, hi⟩ => by rw [hi]; exact qc1.keep (hf i)) Try.underlying25 rfl (by kernel_rfl) (by rw [List.drop_zero, take_all Lc.out]) (by rw [Lc.out]; omega) ?_
       simp only [Act.put, List.setIfInBounds_toArray, List.set_cons_zero, List.set_cons_succ]
       go_big_quiet_on)
    | go_big_quiet_step (first | fail | (go_at_call 16; with_reducible exact calls_fam hf hback (S1.out _)) | (go_at_call 16; with_reducible exact calls_fam hf hback (S2.out _)) | (go_at_call 16; with_reducible exact calls_fam hf hback (S3.out _)) | (go_at_call 16; with_reducible exact calls_fam hf hback (S4.out _)) | (go_at_call 16; with_reducible exact calls_fam hf hback (S5.out _)) | (go_at_call 20; with_reducible exact calls_fam hf hback (M1.out _)) | (go_at_call 20; with_reducible exact calls_fam hf hback (M2.out _))))
  refine wpQuiet_nil ?_
  intro w2 hq
  have qa2 := qa1.keep hq
  have qb2 := qb1.keep hq
  have qc2 := qc1.keep hq
  have hb2 := hb1.trans (hq.mono (HSS.out _ hb1))
  clear hf hback hq hb1 qa1 qb1 qc1 
  go_wp2
  refine wp_fam_all (by kernel_rfl) (by kernel_rfl) (fun I hI' fw hf hback => ?_)
  repeat (first
    | (go_big_quiet_want
       refine quiet_load_seg 25 (.tmp 3) (by rfl) (S) 0 4 (by rfl) 25 .u64 a a _ (fun w' ⟨i, hi⟩ => by rw [hi]; exact qa2.keep (hf i)) Try.underlying25 rfl (by kernel_rfl) (by rw [List.drop_zero, take_all La.out]) (by rw [La.out]; omega) ?_
       simp only [Act.put, List.setIfInBounds_toArray, List.set_cons_zero, List.set_cons_succ]
       go_big_quiet_on)
    | (go_big_quiet_want
       refine quiet_load_seg 25 (.tmp 4) (by rfl) (S + 1) 0 4 (by rfl) 25 .u64 b b _ (fun w' ⟨i, hi⟩ => by rw [hi]; exact qb2.keep (hf i)) Try.underlying25 rfl (by kernel_rfl) (by rw [List.drop_zero, take_all Lb.out]) (by rw [Lb.out]; omega) ?_
       simp only [Act.put, List.setIfInBounds_toArray, List.set_cons_zero, List.set_cons_succ]
       go_big_quiet_on)
    | (go_big_quiet_want
       refine quiet_load_seg 25 (.tmp 5) (by rfl) (S + 2) 0 4 (by rfl) 25 .u64 c c _ (fun w' ⟨i, hi⟩ => by rw [hi]; exact qc2.keep (hf i)) Try.underlying25 rfl (by kernel_rfl) (by rw [List.drop_zero, take_all Lc.out]) (by rw [Lc.out]; omega) ?_
       simp only [Act.put, List.setIfInBounds_toArray, List.set_cons_zero, List.set_cons_succ]
       go_big_quiet_on)
    | go_big_quiet_step (first | fail | (go_at_call 16; with_reducible exact calls_fam hf hback (S4.out _)) | (go_at_call 16; with_reducible exact calls_fam hf hback (S6.out _)) | (go_at_call 20; with_reducible exact calls_fam hf hback (M1.out _)) | (go_at_call 20; with_reducible exact calls_fam hf hback (M3.out _)) | (go_at_call 20; with_reducible exact calls_fam hf hback (M4.out _)) | (go_at_call 20; with_reducible exact calls_fam hf hback (M5.out _)) | (go_at_call 20; with_reducible exact calls_fam hf hback (M6.out _)) | (go_at_call 20; with_reducible exact calls_fam hf hback (M7.out _))))
  refine wpQuiet_nil ?_
  intro w3 hq
  have qa3 := qa2.keep hq
  have qb3 := qb2.keep hq
  have qc3 := qc2.keep hq
  have hb3 := hb2.trans (hq.mono (HSS.out _ hb2))
  clear hf hback hq hb2 qa2 qb2 qc2 
  go_wp2_with (first
    | (refine wpList_free_at 89 (by rfl) (by rfl) ?_; refine wpList_buildTo (by rfl) 25 #[(0, .const (.int .u64 1))] (by rfl) (some 89) (by rfl) (vals .u64 [1, 0, 0, 0]) (by kernel_rfl) ?_)
    | (have hq0 := hb7
       clear hq0
       go_at_call 20
       refine (M9.out _).mono ?_
       rintro e w8 ⟨rfl, hq⟩
       have qa8 := qa7.keep hq
       have qb8 := qb7.keep hq
       have qc8 := qc7.keep hq
       have qx8 := qx7.keep hq
       have qi8 := qi7.keep hq
       have hb8 := hb7.trans (hq.mono (HSS.out _ hb7))
       clear hq hb7 qa7 qb7 qc7 qx7 qi7)
    | (refine wpList_free_at 87 (by rfl) (by rfl) ?_; refine wpList_load_row rfl 25 (.tmp 11) rfl (w6.heap.size) rfl _ _ _ _ qi7.eq Try.underlying25 rfl (by rw [vals_size, Li.out]; kernel_rfl) ?_)
    | (refine wpList_free_at 86 (by rfl) (by rfl) ?_; refine wpList_load_row rfl 25 (.tmp 3) rfl (S) rfl _ _ _ _ qa7.eq Try.underlying25 rfl (by rw [vals_size, La.out]; kernel_rfl) ?_)
    | (refine wpList_free_at 83 (by rfl) (by rfl) ?_; refine wpList_buildTo (by rfl) 25 #[] (by rfl) (some 83) (by rfl) (vals .u64 Z4) (by kernel_rfl) ?_)
    | (refine wpList_free_at 82 (by rfl) (by rfl) ?_; refine wpList_load_row rfl 25 (.tmp 10) rfl (w4.heap.size) rfl _ _ _ _ qx7.eq Try.underlying25 rfl (by rw [vals_size, Lx.out]; kernel_rfl) ?_)
    | (refine wpList_buildTo (by rfl) 25 #[] (by rfl) (some 74) (by rfl) (vals .u64 Z4) (by kernel_rfl) ?_)
    | (refine wpList_load_row rfl 25 (.tmp 10) rfl (w4.heap.size) rfl _ _ _ _ qx7.eq Try.underlying25 rfl (by rw [vals_size, Lx.out]; kernel_rfl) ?_)
    | (refine store_abs2 (by rfl) 25 (.tmp 11) (.tmp 72) (by rfl) (by rfl) (w6.heap.size) (vals .u64 i) (by rfl) (by rfl) 25 (vals .u64 Z4) (Has.new' _ rfl _ _) (by rw [vals_size, Li.out]; kernel_rfl) (by first | rfl | (rw [vals_size, vals_size, Li.out]; rfl)) vals_one ?_
       intro w7 qi7 hkeep hbg
       have hbe := ((Below.refl (w6).heap.size (w6)).alloc (Nat.le_refl _) (.cells (vals .u64 Z4) 25)).trans hbg
       have Nai : Keep (S < w6.heap.size) := ⟨qa6.lt⟩
       have Nbi : Keep (S + 1 < w6.heap.size) := ⟨qb6.lt⟩
       have Nci : Keep (S + 2 < w6.heap.size) := ⟨qc6.lt⟩
       have Nxi : Keep (w4.heap.size < w6.heap.size) := ⟨qx6.lt⟩
       have Mi : Keep (S ≤ w6.heap.size) := ⟨HSS.out _ hb6⟩
       have qa7 := qa6.keep hbe
       have qb7 := qb6.keep hbe
       have qc7 := qc6.keep hbe
       have qx7 := qx6.keep hbe
       have hb7 := hb6.trans (hbe.mono (HSS.out _ hb6))
       clear hkeep hbg hbe hb6 qa6 qb6 qc6 qx6)
    | (have hq0 := hb5
       clear hq0
       go_at_call 22
       refine (I1.out _).mono ?_
       rintro e w6 ⟨rfl, hq⟩
       have qa6 := qa5.keep hq
       have qb6 := qb5.keep hq
       have qc6 := qc5.keep hq
       have qx6 := qx5.keep hq
       have hb6 := hb5.trans (hq.mono (HSS.out _ hb5))
       clear hq hb5 qa5 qb5 qc5 qx5)
    | (refine wpList_load_row rfl 25 (.tmp 3) rfl (S) rfl _ _ _ _ qa5.eq Try.underlying25 rfl (by rw [vals_size, La.out]; kernel_rfl) ?_)
    | (refine store_abs2 (by rfl) 25 (.tmp 10) (.tmp 70) (by rfl) (by rfl) (w4.heap.size) (vals .u64 x) (by rfl) (by rfl) 25 (vals .u64 Z4) (Has.new' _ rfl _ _) (by rw [vals_size, Lx.out]; kernel_rfl) (by first | rfl | (rw [vals_size, vals_size, Lx.out]; rfl)) vals_one ?_
       intro w5 qx5 hkeep hbg
       have hbe := ((Below.refl (w4).heap.size (w4)).alloc (Nat.le_refl _) (.cells (vals .u64 Z4) 25)).trans hbg
       have Nax : Keep (S < w4.heap.size) := ⟨qa4.lt⟩
       have Nbx : Keep (S + 1 < w4.heap.size) := ⟨qb4.lt⟩
       have Ncx : Keep (S + 2 < w4.heap.size) := ⟨qc4.lt⟩
       have Mx : Keep (S ≤ w4.heap.size) := ⟨HSS.out _ hb4⟩
       have qa5 := qa4.keep hbe
       have qb5 := qb4.keep hbe
       have qc5 := qc4.keep hbe
       have hb5 := hb4.trans (hbe.mono (HSS.out _ hb4))
       clear hkeep hbg hbe hb4 qa4 qb4 qc4)
    | (have hq0 := hb3
       clear hq0
       go_at_call 14
       refine (R1.out _).mono ?_
       rintro e w4 ⟨rfl, hq⟩
       have qa4 := qa3.keep hq
       have qb4 := qb3.keep hq
       have qc4 := qc3.keep hq
       have hb4 := hb3.trans (hq.mono (HSS.out _ hb3))
       clear hq hb3 qa3 qb3 qc3)
    | (refine wpList_load_row rfl 25 (.tmp 3) rfl (S) rfl _ _ _ _ qa3.eq Try.underlying25 rfl (by rw [vals_size, La.out]; kernel_rfl) ?_))
  refine wp_fam_all (by kernel_rfl) (by kernel_rfl) (fun I hI' fw hf hback => ?_)
  repeat (first
    | (go_big_quiet_want
       refine quiet_load_seg 25 (.tmp 3) (by rfl) (S) 0 4 (by rfl) 25 .u64 a a _ (fun w' ⟨i, hi⟩ => by rw [hi]; exact qa8.keep (hf i)) Try.underlying25 rfl (by kernel_rfl) (by rw [List.drop_zero, take_all La.out]) (by rw [La.out]; omega) ?_
       simp only [Act.put, List.setIfInBounds_toArray, List.set_cons_zero, List.set_cons_succ]
       go_big_quiet_on)
    | (go_big_quiet_want
       refine quiet_load_seg 25 (.tmp 10) (by rfl) (w4.heap.size) 0 4 (by rfl) 25 .u64 x x _ (fun w' ⟨i, hi⟩ => by rw [hi]; exact qx8.keep (hf i)) Try.underlying25 rfl (by kernel_rfl) (by rw [List.drop_zero, take_all Lx.out]) (by rw [Lx.out]; omega) ?_
       simp only [Act.put, List.setIfInBounds_toArray, List.set_cons_zero, List.set_cons_succ]
       go_big_quiet_on)
    | (go_big_quiet_want
       refine quiet_build 25 #[] (by rfl) (vals .u64 Z4) (by kernel_rfl) ?_
       simp only [Act.put, List.setIfInBounds_toArray, List.set_cons_zero, List.set_cons_succ]
       go_big_quiet_on)
    | (go_big_quiet_want
       refine quiet_build 25 #[(0, .const (.int .u64 1))] (by rfl) (vals .u64 [1, 0, 0, 0]) (by kernel_rfl) ?_
       simp only [Act.put, List.setIfInBounds_toArray, List.set_cons_zero, List.set_cons_succ]
       go_big_quiet_on)
    | go_big_quiet_step (first | fail | (go_at_call 18; with_reducible exact calls_fam hf hback (N1.out _)) | (go_at_call 16; with_reducible exact calls_fam hf hback (S7.out _)) | (go_at_call 20; with_reducible exact calls_fam hf hback (M8.out _))))
  refine wpQuiet_nil ?_
  intro w9 hq
  have qa9 := qa8.keep hq
  have qb9 := qb8.keep hq
  have qc9 := qc8.keep hq
  have qx9 := qx8.keep hq
  have qi9 := qi8.keep hq
  have hb9 := hb8.trans (hq.mono (HSS.out _ hb8))
  clear hf hback hq hb8 qa8 qb8 qc8 qx8 qi8 
  go_wp2
  go_ret
  exact ⟨rfl, hb9⟩

theorem field_w (a : List Int) (hla : a.length = 4) (hwa : Words a) (b : List Int) (hlb : b.length = 4) (hwb : Words b) (c : List Int) (hlc : c.length = 4) (hwc : Words c) (w : World) : Calls Try.prog 8 #[.agg (vals .u64 a), .agg (vals .u64 b), .agg (vals .u64 c)] w fun e w' => e = .returned (.bool true) ∧ Below w.heap.size w w' := by
  by_cases h : num a % RR = 0
  · exact field_zero a hla hwa b hlb hwb c hlc hwc w h
  · exact field_some a hla hwa b hlb hwb c hlc hwc w h

end Go.Proofs.Ythaoebamnlmfpaa.Fr
