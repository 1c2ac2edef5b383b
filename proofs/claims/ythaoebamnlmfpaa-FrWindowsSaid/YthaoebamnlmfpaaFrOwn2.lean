/-
  Own text. The contracts of layer 6's landed package, on: Inv, Bytes, FromBytes.
-/
import Derived.Test.YthaoebamnlmfpaaFrOwn
import Derived.Test.YthaoebamnlmfpaaLimbOwnB
import Derived.Test.YthaoebamnlmfpaaFrRef7
namespace Go.Proofs.Ythaoebamnlmfpaa.Fr
set_option linter.unusedVariables false
set_option linter.unusedSimpArgs false
open Go Go.RowKit Go.Proofs.Ythaoebamnlmfpaa.Num Go.Proofs.Ythaoebamnlmfpaa.Reg Go.Proofs.Ythaoebamnlmfpaa.Base Go.Proofs.Ythaoebamnlmfpaa.Limb Go.Proofs.Ythaoebamnlmfpaa.Bits

/-- A word stored into a block that is known whole. -/
theorem only_row_ (g : Nat) (w : World) (cs : Array Value) : Only g w (w.setRow g cs) :=
  ⟨rfl, rfl, rfl, by simp, fun k _ hne => setRow_other w g k cs hne⟩
theorem store_word_ {P : Program} {w : World} {ops : Array Oper} {rest : List Oper} {o : Oper} {a : Act} {Q : Exit → Act → World → Prop} (hgd : o.guard = none) (ty : TypeId) (x y : Operand) (ho : o.op = .store ty x y)
    (hd : o.dst = none) (g i : Nat) (hx : a.eval x = .pointer (some ⟨g, i, none⟩)) (k : IntKind) (v : Int) (hy : a.eval y = .int k v) (hty : (P.info? ty).map (·.size) = some 1)
    (t : TypeId) (xs : List Int) (hg : Has w g t (vals k xs)) (hi : i < xs.length) (ys : List Int) (hys : xs.set i v = ys)
    (h : ∀ w', Has w' g t (vals k ys) → Only g w w' → wpList P ops Q rest a w') : wpList P ops Q (o :: rest) a w := by
  refine wpList_plain hgd fun K hK => ?_
  have hst := run_storeCells_at P g i t [Value.int k v] 0 (vals k xs) w hg.eq (by rw [vals_size]; simp; omega) (fun u hu => by
    obtain rfl : u = Value.int k v := by simpa using hu
    rfl)
  have hcells : ((vals k xs).toList.take (i + 0) ++ [Value.int k v] ++ (vals k xs).toList.drop (i + 0 + [Value.int k v].length)).toArray = vals k ys := by
    subst hys
    simp only [vals, Nat.add_zero, List.length_singleton, List.map_set]
    congr 1
    rw [List.set_eq_take_append_cons_drop, if_pos (by simpa using hi), List.append_assoc]
    rfl
  rw [hcells] at hst
  cases hq : P.info? ty with
  | none => simp [hq] at hty
  | some inf =>
    have hs : inf.size = 1 := by simpa [hq] using hty
    have hrun : (storeVar ty ⟨g, i, none⟩ (.int k v)).run P w = .ok () (w.setRow g (vals k ys)) := by
      simp [storeVar, sizeOf, typeInfo, hq, Value.cells, hs, hst]
    unfold Oper.wp execOp
    simp only [ho, hx, hy, Instr.storeAt, Instr.sureAddr, Sem.run_bind, Sem.run_pure, Result.andThen_ok, hrun]
    refine hK _ _ ?_
    rw [hd]
    exact h _ (hg.row _) (only_row_ g w _)

set_option maxRecDepth 100000 in
set_option maxHeartbeats 2000000 in
theorem frInv_c (a : List Int) (hla : a.length = 4) (hwa : Words a) (w : World) : Calls Try.prog 22 #[.agg (vals .u64 a)] w fun e w' => e = .returned (.agg (vals .u64 (fr (pw (num a) (RR - 2))))) ∧ Below w.heap.size w w' := by
  obtain ⟨res, hres⟩ : ∃ o, fr (pw (num a) (RR - 2)) = o := ⟨_, rfl⟩
  have Lres : Keep (res.length = 4) := ⟨by rw [← hres]; exact fr_len _⟩
  have HF : Keep (fr (pw (num a) (num eL)) = res) := ⟨by rw [eL_num]; exact hres⟩
  rw [hres]
  clear hres
  have La : Keep (a.length = 4) := ⟨hla⟩
  have Va : Keep (Words a) := ⟨hwa⟩
  have LZ : Keep (Z4.length = 4) := ⟨rfl⟩
  have LM : Keep (mL.length = 4) := ⟨rfl⟩
  have LE : Keep (eL.length = 4) := ⟨rfl⟩
  have L1 : Keep (([1, 0, 0, 0] : List Int).length = 4) := ⟨rfl⟩
  have HE0 : Keep ([1, 0, 0, 0] = fr (pw (num a) (num eL / tp 256))) := ⟨by
    rw [show num eL / tp 256 = 0 by decide +kernel, pw_zero, fr_one]⟩
  have HSE : Keep (mL.set 0 18446744069414584319 = eL) := ⟨rfl⟩
  obtain ⟨S, hS⟩ : ∃ S, w.heap.size = S := ⟨_, rfl⟩
  have qa0 : Has ((w.alloc (.cells (vals .u64 a) 25)).alloc (.cells (vals .u64 Z4) 25)) (S) 25 (vals .u64 a) := by exact ((Has.new' _ hS.symm _ _).alloc _)
  have qo0 : Has ((w.alloc (.cells (vals .u64 a) 25)).alloc (.cells (vals .u64 Z4) 25)) (S + 1) 25 (vals .u64 Z4) := by exact (Has.new' _ (by simp only [World.size_alloc, hS]) _ _)
  have hb0 : Below S w ((w.alloc (.cells (vals .u64 a) 25)).alloc (.cells (vals .u64 Z4) 25)) := by rw [← hS]; exact (((Below.refl _ _).alloc (Nat.le_refl _) _).alloc (by simp <;> omega) _)
  have hsz0 : ((w.alloc (.cells (vals .u64 a) 25)).alloc (.cells (vals .u64 Z4) 25)).heap.size = S + 2 := by simp only [World.size_alloc, hS]
  have HS0 : Keep (S ≤ w.heap.size) := ⟨by omega⟩
  have HSS : Keep (∀ x : World, Below S w x → S ≤ x.heap.size) := ⟨fun x hb => Nat.le_trans HS0.out hb.size⟩
  rw [hS]
  clear hla hwa
  go_enter Try.func22, Try.ntmps22
  go_wp2_with (first
    | (refine store_abs2 (by rfl) 25 (.tmp 4) (.tmp 12) (by rfl) (by rfl) (w3.heap.size) (vals .u64 [1, 0, 0, 0]) (by rfl) (by rfl) 25 (vals .u64 Z4) (Has.new' _ rfl _ _) (by rw [vals_size, L1.out]; kernel_rfl) (by first | rfl | (rw [vals_size, vals_size, L1.out]; rfl)) vals_one ?_
       intro w4 qu4 hkeep hbg
       have hbe := ((Below.refl (w3).heap.size (w3)).alloc (Nat.le_refl _) (.cells (vals .u64 Z4) 25)).trans hbg
       have Nau : Keep (S < w3.heap.size) := ⟨qa3.lt⟩
       have Nou : Keep (S + 1 < w3.heap.size) := ⟨qo3.lt⟩
       have Neu : Keep (w1.heap.size < w3.heap.size) := ⟨qe3.lt⟩
       have Mu : Keep (S ≤ w3.heap.size) := ⟨HSS.out _ hb3⟩
       have qa4 := qa3.keep hbe
       have qo4 := qo3.keep hbe
       have qe4 := qe3.keep hbe
       have hb4 := hb3.trans (hbe.mono (HSS.out _ hb3))
       clear hkeep hbg hbe hb3 qa3 qo3 qe3)
    | (refine wpList_buildTo (by rfl) 25 #[(0, .const (.int .u64 1))] (by rfl) (some 12) (by rfl) (vals .u64 [1, 0, 0, 0]) (by kernel_rfl) ?_)
    | (refine store_word_ (by rfl) 23 (.tmp 11) (.tmp 10) (by rfl) (by rfl) (w1.heap.size) 0 (by rfl) .u64 18446744069414584319 (by rfl) (by kernel_rfl) 25 mL qe2 (by decide) eL HSE.out ?_
       intro w3 qe3 ho
       have qa3 := ho.has qa2 (Nat.ne_of_lt Nae.out)
       have qo3 := ho.has qo2 (Nat.ne_of_lt Noe.out)
       have hb3 := hb2.trans (ho.below (B := S) Me.out (HSS.out _ hb2))
       clear ho c0 qa2 qo2 qe2 hb2)
    | (refine store_abs2 (by rfl) 25 (.tmp 3) (.tmp 7) (by rfl) (by rfl) (w1.heap.size) (vals .u64 mL) (by rfl) (by rfl) 25 (vals .u64 Z4) (Has.new' _ rfl _ _) (by rw [vals_size, LM.out]; kernel_rfl) (by first | rfl | (rw [vals_size, vals_size, LM.out]; rfl)) vals_one ?_
       intro w2 qe2 hkeep hbg
       have hbe := ((Below.refl (w1).heap.size (w1)).alloc (Nat.le_refl _) (.cells (vals .u64 Z4) 25)).trans hbg
       have Nae : Keep (S < w1.heap.size) := ⟨qa1.lt⟩
       have Noe : Keep (S + 1 < w1.heap.size) := ⟨qo1.lt⟩
       have Me : Keep (S ≤ w1.heap.size) := ⟨HSS.out _ hb1⟩
       have qa2 := qa1.keep hbe
       have qo2 := qo1.keep hbe
       have hb2 := hb1.trans (hbe.mono (HSS.out _ hb1))
       clear hkeep hbg hbe hb1 qa1 qo1
       have c0 := qe2.val (i := 0) (by decide)
       rw [show nth mL 0 = 18446744069414584321 from rfl] at c0)
    | (have hq0 := hb0
       clear hq0
       go_at_call 12
       refine (frR_c _).mono ?_
       rintro e w1 ⟨rfl, hq⟩
       have qa1 := qa0.keep hq
       have qo1 := qo0.keep hq
       have hb1 := hb0.trans (hq.mono (HSS.out _ hb0))
       clear hq hb0 qa0 qo0))
  rw [HE0.out] at qu4
  go_loopg [13] 256 (fun (gk : Nat) vi w10 => gk ≤ 256 ∧ vi = .int .i64 (256 - (gk : Int)) ∧ Has w10 S 25 (vals .u64 a) ∧ Has w10 (S + 1) 25 (vals .u64 Z4) ∧ Has w10 (w1.heap.size) 25 (vals .u64 eL) ∧ Has w10 (w3.heap.size) 25 (vals .u64 (fr (pw (num a) (num eL / tp gk)))) ∧ Below S w w10)
  case atStart => exact ⟨Nat.le_refl _, by go_num, qa4, qo4, qe4, qu4, hb4⟩
  case round =>
    clear qa4 qo4 qe4 qu4 hb4
    obtain ⟨hk, rfl, qa10, qo10, qe10, qu10, hb10⟩ := hrel
    rcases gk with _ | i
    · obtain ⟨o, ho⟩ : ∃ o, fr (pw (num a) (num eL / tp 0)) = o := ⟨_, rfl⟩
      have Lo : Keep (o.length = 4) := ⟨ho ▸ fr_len _⟩
      have FIN : Keep (o = res) := ⟨by rw [← ho, tp_zero, Int.ediv_one]; exact HF.out⟩
      rw [ho] at qu10
      clear ho
      go_wp2_with (first
        | (refine store_abs2 (by rfl) 25 (.tmp 2) (.tmp 34) (by rfl) (by rfl) (S + 1) (vals .u64 o) (by rfl) (by rfl) 25 _ qo10 (by rw [vals_size, Lo.out]; kernel_rfl) (by first | rfl | (rw [vals_size, vals_size, Lo.out]; rfl) | rw [vals_size, vals_size, Lo.out, LZ.out]) vals_one ?_
           intro w11 qo11 hkeep hbg
           have qa11 := hkeep _ _ _ qa10 (by omega)
           have qe11 := hkeep _ _ _ qe10 (Nat.ne_of_gt Noe.out)
           have qu11 := hkeep _ _ _ qu10 (Nat.ne_of_gt Nou.out)
           have hb11 := hb10.trans (hbg.mono (by omega))
           clear hkeep hbg hb10 qa10 qo10 qe10 qu10)
        | (refine wpList_load_row rfl 25 (.tmp 4) rfl (w3.heap.size) rfl _ _ _ _ qu10.eq Try.underlying25 rfl (by rw [vals_size, Lo.out]; kernel_rfl) ?_))
      refine bodyPost_ret (v := .agg (vals .u64 o)) (results_cell_row rfl _ _ (S + 1) _ _ _ _ rfl qo11.eq Try.underlying25 rfl (by rw [vals_size, Lo.out]; kernel_rfl)) rfl ⟨ret_eq (by rw [FIN.out]), hb11⟩
    · obtain ⟨q, hq⟩ : ∃ q : Nat, 255 - i = q := ⟨_, rfl⟩
      have hqi : q ≤ 255 := by omega
      have e1 : 256 - ((i + 1 : Nat) : Int) = (q : Int) := by omega
      have e3 : 256 - (i : Int) = (q : Int) + 1 := by omega
      have HE3 : Keep _ := ⟨e3⟩
      rw [e1]
      clear e1 e3
      have e2 : (255 : Int) - (q : Int) = (i : Int) := by omega
      have hi' : i ≤ 255 := by omega
      clear hq
      obtain ⟨yv, hyv⟩ : ∃ v, nth eL (i / 64) = v := ⟨_, rfl⟩
      have by' : 0 ≤ yv ∧ yv ≤ 18446744073709551615 := hyv ▸ eL_words (i / 64)
      have hyb : bitL eL i = yv / 2 ^ (i % 64) % 2 := by rw [bitL, hyv]; rfl
      have hsb := shr_bounds by'.1 by'.2 (i % 64)
      have hand := and_one hsb.1 hsb.2
      have hsn : 0 ≤ num eL / tp (i + 1) := Int.ediv_nonneg (num_bounds eL_words).1 (Int.le_of_lt (tp_pos _))
      have hsh := num_shift (num eL) i
      rw [num_bit eL_words, hyb] at hsh
      have HC : Keep (∀ w' : World, Has w' (w1.heap.size) 25 (vals .u64 eL) → w'.cell? ⟨w1.heap.size, i / 64, none⟩ = some (.int .u64 yv)) := ⟨fun w' h => by rw [← hyv]; exact h.val (by rw [LE.out]; omega)⟩
      obtain ⟨o, ho⟩ : ∃ o, fr (pw (num a) (num eL / tp (i + 1))) = o := ⟨_, rfl⟩
      have Lo : Keep (o.length = 4) := ⟨ho ▸ fr_len _⟩
      obtain ⟨o2, ho2⟩ : ∃ o2, fr (num o * num o) = o2 := ⟨_, rfl⟩
      have h2 : o2 = fr (pw (num a) (2 * (num eL / tp (i + 1)))) := by
        rw [← ho2, ← ho, fr_mull, fr_mulr, ← pw_add hsn hsn]
        congr 2
        omega
      have Lo2 : Keep (o2.length = 4) := ⟨ho2 ▸ fr_len _⟩
      have Q1 : Keep (∀ z : World, _) := ⟨fun z => frMul_c o Lo.out (ho ▸ fr_words _) o Lo.out (ho ▸ fr_words _) z⟩
      rw [ho2] at Q1
      rw [ho] at qu10
      have hsb0 := hsb.1
      clear hand hsb
      rcases (show yv / 2 ^ (i % 64) % 2 = 0 ∨ yv / 2 ^ (i % 64) % 2 = 1 by omega) with h3 | h3
      · have hbit : ((yv / 2 ^ (i % 64)).tmod 2 == 1) = false := by rw [Int.tmod_eq_emod_of_nonneg hsb0, h3]; rfl
        have FIN : Keep (o2 = fr (pw (num a) (num eL / tp i))) := ⟨by rw [h2, hsh, h3, Int.add_zero]⟩
        clear hyb hsn hsh ho ho2 h2 hyv
        go_wp2_with (first
          | (refine store_abs2 (by rfl) 25 (.tmp 4) (.tmp 18) (by rfl) (by rfl) (w3.heap.size) (vals .u64 o2) (by rfl) (by rfl) 25 _ qu11 (by rw [vals_size, Lo2.out]; kernel_rfl) (by first | rfl | (rw [vals_size, vals_size, Lo2.out]; rfl) | rw [vals_size, vals_size, Lo2.out, Lo.out]) vals_one ?_
             intro w12 qu12 hkeep hbg
             have qa12 := hkeep _ _ _ qa11 (Nat.ne_of_lt Nau.out)
             have qo12 := hkeep _ _ _ qo11 (Nat.ne_of_lt Nou.out)
             have qe12 := hkeep _ _ _ qe11 (Nat.ne_of_lt Neu.out)
             have hb12 := hb11.trans (hbg.mono Mu.out)
             clear hkeep hbg hb11 qa11 qo11 qe11 qu11
             have hcell := HC.out _ qe12
             rw [FIN.out] at qu12)
          | (have hq0 := hb10
             clear hq0
             go_at_call 20
             refine (Q1.out _).mono ?_
             rintro e w11 ⟨rfl, hq⟩
             have qa11 := qa10.keep hq
             have qo11 := qo10.keep hq
             have qe11 := qe10.keep hq
             have qu11 := qu10.keep hq
             have hb11 := hb10.trans (hq.mono (HSS.out _ hb10))
             clear hq hb10 qa10 qo10 qe10 qu10)
          | (refine wpList_load_row rfl 25 (.tmp 4) rfl (w3.heap.size) rfl _ _ _ _ qu10.eq Try.underlying25 rfl (by rw [vals_size, Lo.out]; kernel_rfl) ?_))
        go_roundg i
        case measure => omega
        case rel => exact ⟨by omega, by rw [HE3.out], qa12, qo12, qe12, qu12, hb12⟩
      · have hbit : ((yv / 2 ^ (i % 64)).tmod 2 == 1) = true := by rw [Int.tmod_eq_emod_of_nonneg hsb0, h3]; rfl
        obtain ⟨o3, ho3⟩ : ∃ o3, fr (num o2 * num a) = o3 := ⟨_, rfl⟩
        have FIN : Keep (o3 = fr (pw (num a) (num eL / tp i))) := ⟨by rw [← ho3, h2, fr_mull, hsh, h3, pw_add (by omega) (by omega), pw_one]⟩
        have Lo3 : Keep (o3.length = 4) := ⟨ho3 ▸ fr_len _⟩
        have Q2 : Keep (∀ z : World, _) := ⟨fun z => frMul_c o2 Lo2.out (ho2 ▸ fr_words _) a La.out Va.out z⟩
        rw [ho3] at Q2
        clear hyb hsn hsh ho ho2 ho3 h2 hyv
        go_wp2_with (first
          | (refine store_abs2 (by rfl) 25 (.tmp 4) (.tmp 32) (by rfl) (by rfl) (w3.heap.size) (vals .u64 o3) (by rfl) (by rfl) 25 _ qu13 (by rw [vals_size, Lo3.out]; kernel_rfl) (by first | rfl | (rw [vals_size, vals_size, Lo3.out]; rfl) | rw [vals_size, vals_size, Lo3.out, Lo2.out]) vals_one ?_
             intro w14 qu14 hkeep hbg
             have qa14 := hkeep _ _ _ qa13 (Nat.ne_of_lt Nau.out)
             have qo14 := hkeep _ _ _ qo13 (Nat.ne_of_lt Nou.out)
             have qe14 := hkeep _ _ _ qe13 (Nat.ne_of_lt Neu.out)
             have hb14 := hb13.trans (hbg.mono Mu.out)
             clear hkeep hbg hb13 qa13 qo13 qe13 qu13)
          | (have q1 := f1
             have hq0 := hb12
             clear hq0
             go_at_call 20
             refine (Q2.out _).mono ?_
             rintro e w13 ⟨rfl, hq⟩
             have qa13 := qa12.keep hq
             have qo13 := qo12.keep hq
             have qe13 := qe12.keep hq
             have qu13 := qu12.keep hq
             have hb13 := hb12.trans (hq.mono (HSS.out _ hb12))
             clear hq hb12 qa12 qo12 qe12 qu12)
          | (refine wpList_load_row rfl 25 (.tmp 1) rfl (S) rfl _ _ _ _ qa12.eq Try.underlying25 rfl (by rw [vals_size, La.out]; kernel_rfl) ?_)
          | (have q1 := f1
             refine wpList_load_row rfl 25 (.tmp 4) rfl (w3.heap.size) rfl _ _ _ _ qu12.eq Try.underlying25 rfl (by rw [vals_size, Lo2.out]; kernel_rfl) ?_)
          | (refine store_abs2 (by rfl) 25 (.tmp 4) (.tmp 18) (by rfl) (by rfl) (w3.heap.size) (vals .u64 o2) (by rfl) (by rfl) 25 _ qu11 (by rw [vals_size, Lo2.out]; kernel_rfl) (by first | rfl | (rw [vals_size, vals_size, Lo2.out]; rfl) | rw [vals_size, vals_size, Lo2.out, Lo.out]) vals_one ?_
             intro w12 qu12 hkeep hbg
             have qa12 := hkeep _ _ _ qa11 (Nat.ne_of_lt Nau.out)
             have qo12 := hkeep _ _ _ qo11 (Nat.ne_of_lt Nou.out)
             have qe12 := hkeep _ _ _ qe11 (Nat.ne_of_lt Neu.out)
             have hb12 := hb11.trans (hbg.mono Mu.out)
             clear hkeep hbg hb11 qa11 qo11 qe11 qu11
             have hcell := HC.out _ qe12
             have f1 := True.intro)
          | (have hq0 := hb10
             clear hq0
             go_at_call 20
             refine (Q1.out _).mono ?_
             rintro e w11 ⟨rfl, hq⟩
             have qa11 := qa10.keep hq
             have qo11 := qo10.keep hq
             have qe11 := qe10.keep hq
             have qu11 := qu10.keep hq
             have hb11 := hb10.trans (hq.mono (HSS.out _ hb10))
             clear hq hb10 qa10 qo10 qe10 qu10)
          | (refine wpList_load_row rfl 25 (.tmp 4) rfl (w3.heap.size) rfl _ _ _ _ qu10.eq Try.underlying25 rfl (by rw [vals_size, Lo.out]; kernel_rfl) ?_))
        rw [FIN.out] at qu14
        go_roundg i
        case measure => omega
        case rel => exact ⟨by omega, by rw [HE3.out], qa14, qo14, qe14, qu14, hb14⟩

set_option maxRecDepth 100000 in
set_option maxHeartbeats 2000000 in
theorem frBytes_c (a : List Int) (hla : a.length = 4) (hwa : Words a) (w : World) : Calls Try.prog 28 #[.agg (vals .u64 a)] w fun e w' => e = .returned (.agg (vals .u8 (octL (fr (num a)) 32))) ∧ Below w.heap.size w w' := by
  have P1 : Keep (∀ x : World, _) := ⟨fun x => frReduce_c a hla hwa x⟩
  have wx : Words (fr (num a)) := fr_words _
  obtain ⟨x, hx⟩ : ∃ o, fr (num a) = o := ⟨_, rfl⟩
  have Lx : Keep (x.length = 4) := ⟨by rw [← hx]; exact fr_len _⟩
  rw [hx] at P1 wx ⊢
  obtain ⟨o, ho⟩ : ∃ o, octL x 32 = o := ⟨_, rfl⟩
  have Lo : Keep (o.length = 32) := ⟨by rw [← ho]; exact octL_len _ _⟩
  have L32 : Keep ((List.replicate 32 (0 : Int)).length = 32) := ⟨rfl⟩
  have P2 : Keep (∀ (y : World) (g : Nat), Has y g 25 (vals .u64 x) → Calls Try.prog 46 #[.slice (some ⟨g, 0, none⟩) 4 4, .int .i64 32] y fun e y' => ∃ A'' c'', e = .returned (.slice A'' 32 c'') ∧ Frs y' y.heap.size A'' 32 .u8 o ∧ Below y.heap.size y y') := ⟨fun y g h => by
    have h1 := octets_c (some ⟨g, 0, none⟩) 4 4 x 32 y.heap.size y (Rd.of_has h h.lt (by rw [List.drop_zero, take_all Lx.out]) (by rw [Lx.out]; omega)) wx (Nat.le_refl _) (by omega) (by omega)
    rw [ho] at h1
    exact h1⟩
  have HAT : Keep (∀ (w : World) (A : Option Addr) (c : Nat), (Instr.arrayAt 36 (.slice A 32 c)).run Try.prog w = .ok (.pointer A) w) := ⟨fun w A c => arrayAt_run Try.underlying36 (by omega)⟩
  rw [ho]
  have La : Keep (a.length = 4) := ⟨hla⟩
  have Va : Keep (Words a) := ⟨hwa⟩
  have LZ : Keep (Z4.length = 4) := ⟨rfl⟩
  have LM : Keep (mL.length = 4) := ⟨rfl⟩
  obtain ⟨S, hS⟩ : ∃ S, w.heap.size = S := ⟨_, rfl⟩
  have qa0 : Has ((w.alloc (.cells (vals .u64 a) 25)).alloc (.cells (vals .u8 (List.replicate 32 0)) 36)) (S) 25 (vals .u64 a) := by exact ((Has.new' _ hS.symm _ _).alloc _)
  have qo0 : Has ((w.alloc (.cells (vals .u64 a) 25)).alloc (.cells (vals .u8 (List.replicate 32 0)) 36)) (S + 1) 36 (vals .u8 (List.replicate 32 0)) := by exact (Has.new' _ (by simp only [World.size_alloc, hS]) _ _)
  have hb0 : Below S w ((w.alloc (.cells (vals .u64 a) 25)).alloc (.cells (vals .u8 (List.replicate 32 0)) 36)) := by rw [← hS]; exact (((Below.refl _ _).alloc (Nat.le_refl _) _).alloc (by simp <;> omega) _)
  have hsz0 : ((w.alloc (.cells (vals .u64 a) 25)).alloc (.cells (vals .u8 (List.replicate 32 0)) 36)).heap.size = S + 2 := by simp only [World.size_alloc, hS]
  have HS0 : Keep (S ≤ w.heap.size) := ⟨by omega⟩
  have HSS : Keep (∀ x : World, Below S w x → S ≤ x.heap.size) := ⟨fun x hb => Nat.le_trans HS0.out hb.size⟩
  rw [hS]
  clear hx ho wx
  clear hla hwa
  go_enter Try.func28, Try.ntmps28
  go_wp2_with (first
    | (refine store_abs2 (by rfl) 36 (.tmp 2) (.tmp 9) (by rfl) (by rfl) (S + 1) (vals .u8 o) (by rfl) (by rfl) 36 _ qo3 (by rw [vals_size, Lo.out]; kernel_rfl) (by first | rfl | (rw [vals_size, vals_size, Lo.out]; rfl) | rw [vals_size, vals_size, Lo.out, L32.out]) vals_one ?_
       intro w4 qo4 hkeep hbg
       have qa4 := hkeep _ _ _ qa3 (by omega)
       have qx4 := hkeep _ _ _ qx3 (Nat.ne_of_gt Nox.out)
       have hb4 := hb3.trans (hbg.mono (by omega))
       clear hkeep hbg hb3 qa3 qo3 qx3)
    | (refine load_rd_ (by rfl) 36 (.tmp 8) (by rfl) A3 32 w3.heap.size (by rfl) .u8 o _ xv3 (by omega) Try.underlying36 rfl (by kernel_rfl) ?_)
    | (have hq0 := hb2
       clear hq0
       go_at_call 46
       refine (P2.out _ _ qx2).mono ?_
       rintro e w3 ⟨A3, c3, rfl, ho, hq⟩
       have qa3 := qa2.keep hq
       have qo3 := qo2.keep hq
       have qx3 := qx2.keep hq
       have hb3 := hb2.trans (hq.mono (HSS.out _ hb2))
       have xv3 := ho.rd
       have hat := fun w => HAT.out w A3 c3
       clear ho
       clear hq hb2 qa2 qo2 qx2)
    | (refine store_abs2 (by rfl) 25 (.tmp 3) (.tmp 5) (by rfl) (by rfl) (w1.heap.size) (vals .u64 x) (by rfl) (by rfl) 25 (vals .u64 Z4) (Has.new' _ rfl _ _) (by rw [vals_size, Lx.out]; kernel_rfl) (by first | rfl | (rw [vals_size, vals_size, Lx.out]; rfl)) vals_one ?_
       intro w2 qx2 hkeep hbg
       have hbe := ((Below.refl (w1).heap.size (w1)).alloc (Nat.le_refl _) (.cells (vals .u64 Z4) 25)).trans hbg
       have Nax : Keep (S < w1.heap.size) := ⟨qa1.lt⟩
       have Nox : Keep (S + 1 < w1.heap.size) := ⟨qo1.lt⟩
       have Mx : Keep (S ≤ w1.heap.size) := ⟨HSS.out _ hb1⟩
       have qa2 := qa1.keep hbe
       have qo2 := qo1.keep hbe
       have hb2 := hb1.trans (hbe.mono (HSS.out _ hb1))
       clear hkeep hbg hbe hb1 qa1 qo1)
    | (have hq0 := hb0
       clear hq0
       go_at_call 14
       refine (P1.out _).mono ?_
       rintro e w1 ⟨rfl, hq⟩
       have qa1 := qa0.keep hq
       have qo1 := qo0.keep hq
       have hb1 := hb0.trans (hq.mono (HSS.out _ hb0))
       clear hq hb0 qa0 qo0)
    | (refine wpList_load_row rfl 25 (.tmp 1) rfl (S) rfl _ _ _ _ qa0.eq Try.underlying25 rfl (by rw [vals_size, La.out]; kernel_rfl) ?_))
  refine bodyPost_ret (v := .agg (vals .u8 o)) (results_cell_row rfl _ _ (S + 1) _ _ _ _ rfl qo4.eq Try.underlying36 rfl (by rw [vals_size, Lo.out]; kernel_rfl)) rfl ⟨rfl, hb4⟩

set_option maxRecDepth 100000 in
set_option maxHeartbeats 2000000 in
theorem frFromBytes_no (A : Option Addr) (n c : Nat) (w : World) (hn : n ≠ 32) : Calls Try.prog 24 #[.slice A n c] w fun e w' => e = .returned (.tuple #[.agg (vals .u64 Z4), .int .i64 60]) ∧ Below w.heap.size w w' := by
  have LZ : Keep (Z4.length = 4) := ⟨rfl⟩
  have hne : ((n : Int) != 32) = true := by rw [bne_iff_ne]; omega
  obtain ⟨S, hS⟩ : ∃ S, w.heap.size = S := ⟨_, rfl⟩
  have qo0 : Has (w.alloc (.cells (vals .u64 Z4) 25)) (S) 25 (vals .u64 Z4) := by exact (Has.new' _ hS.symm _ _)
  have hb0 : Below S w (w.alloc (.cells (vals .u64 Z4) 25)) := by rw [← hS]; exact ((Below.refl _ _).alloc (Nat.le_refl _) _)
  have hsz0 : (w.alloc (.cells (vals .u64 Z4) 25)).heap.size = S + 1 := by simp only [World.size_alloc, hS]
  have HS0 : Keep (S ≤ w.heap.size) := ⟨by omega⟩
  have HSS : Keep (∀ x : World, Below S w x → S ≤ x.heap.size) := ⟨fun x hb => Nat.le_trans HS0.out hb.size⟩
  rw [hS]
  go_enter Try.func24, Try.ntmps24
  go_wp2_with (first
    | (refine store_abs2 (by rfl) 25 (.tmp 2) (.tmp 9) (by rfl) (by rfl) (S) (vals .u64 Z4) (by rfl) (by rfl) 25 _ qo0 (by rw [vals_size, LZ.out]; kernel_rfl) (by first | rfl | (rw [vals_size, vals_size, LZ.out]; rfl) | rw [vals_size, vals_size, LZ.out, LZ.out]) vals_one ?_
       intro w1 qo1 hkeep hbg
       have hb1 := hb0.trans (hbg.mono (by omega))
       clear hkeep hbg hb0 qo0)
    | (refine wpList_buildTo (by rfl) 25 #[] (by rfl) (some 9) (by rfl) (vals .u64 Z4) (by kernel_rfl) ?_))
  refine bodyPost_ret (v := .tuple #[.agg (vals .u64 Z4), .int .i64 60]) (results_row_tmp_ rfl _ _ (S) _ _ _ _ _ rfl rfl qo1.eq Try.underlying25 rfl (by rw [vals_size, LZ.out]; kernel_rfl)) rfl ⟨rfl, hb1⟩

set_option maxRecDepth 100000 in
set_option maxHeartbeats 2000000 in
theorem frFromBytes_range (A : Option Addr) (c : Nat) (l : List Int) (B : Nat) (w : World) (hr : Rd w B A 32 .u8 l) (hby : Bytes l) (hB : B ≤ w.heap.size) (hp : RR ≤ bnum l) : Calls Try.prog 24 #[.slice A 32 c] w fun e w' => e = .returned (.tuple #[.agg (vals .u64 Z4), .int .i64 61]) ∧ Below w.heap.size w w' := by
  have LZ : Keep (Z4.length = 4) := ⟨rfl⟩
  have LM : Keep (mL.length = 4) := ⟨rfl⟩
  have hll := hr.len
  have hnv := num_wordsL_ hby
  have hvl : (wordsL l).length = 4 := by rw [wordsL, wd_len, hll]
  have hvw : Words (wordsL l) := wd_words _ _
  obtain ⟨z, hz, hz0⟩ : ∃ z : Int, cmpL (wordsL l) mL = z ∧ (z = 0 ∨ z = 1) := ⟨_, rfl, by
    unfold cmpL
    rw [hnv, num_mL, if_neg (by omega)]
    by_cases h : bnum l = RR
    · exact .inl (if_pos h)
    · exact .inr (if_neg h)⟩
  have P1 : Keep (∀ y : World, Rd y y.heap.size A 32 .u8 l → Calls Try.prog 43 #[.slice A 32 c] y fun e y' => ∃ A'' c'', e = .returned (.slice A'' 4 c'') ∧ Frs y' y.heap.size A'' 4 .u64 (wordsL l) ∧ Below y.heap.size y y') := ⟨fun y h => words_c A 32 c l y.heap.size y h hby (Nat.le_refl _) (by omega)⟩
  have P2 : Keep (∀ (y : World) (A' : Option Addr) (c' g : Nat), Rd y y.heap.size A' 4 .u64 (wordsL l) → Has y g 25 (vals .u64 mL) → Calls Try.prog 36 #[.slice A' 4 c', .slice (some ⟨g, 0, none⟩) 4 4] y fun e y' => e = .returned (.int .i64 z) ∧ Below y.heap.size y y') := ⟨fun y A' c' g h h' => by
    have h1 := cmp_c A' 4 c' (wordsL l) (some ⟨g, 0, none⟩) 4 4 mL y.heap.size y h hvw (Rd.of_has h' h'.lt (by rfl) (by decide)) mL_words (Nat.le_refl _) (by omega) (by omega)
    rw [hz] at h1
    exact h1⟩
  obtain ⟨v, hv⟩ : ∃ v, wordsL l = v := ⟨_, rfl⟩
  rw [hv] at P1 P2
  obtain ⟨S, hS⟩ : ∃ S, w.heap.size = S := ⟨_, rfl⟩
  have qo0 : Has (w.alloc (.cells (vals .u64 Z4) 25)) (S) 25 (vals .u64 Z4) := by exact (Has.new' _ hS.symm _ _)
  have hb0 : Below S w (w.alloc (.cells (vals .u64 Z4) 25)) := by rw [← hS]; exact ((Below.refl _ _).alloc (Nat.le_refl _) _)
  have hsz0 : (w.alloc (.cells (vals .u64 Z4) 25)).heap.size = S + 1 := by simp only [World.size_alloc, hS]
  have HS0 : Keep (S ≤ w.heap.size) := ⟨by omega⟩
  have HSS : Keep (∀ x : World, Below S w x → S ≤ x.heap.size) := ⟨fun x hb => Nat.le_trans HS0.out hb.size⟩
  rw [hS]
  have HRD : Keep (∀ x : World, Below S w x → Rd x x.heap.size A 32 .u8 l) := ⟨fun x hb => (hr.keep hb (by omega)).more (Nat.le_trans hB (Nat.le_trans (by omega) (HSS.out _ hb)))⟩
  clear hr hby hB hp hll hnv hvl hvw hz hv
  rcases hz0 with rfl | rfl
  · go_enter Try.func24, Try.ntmps24
    go_wp2_with (first
      | (refine store_abs2 (by rfl) 25 (.tmp 2) (.tmp 17) (by rfl) (by rfl) (S) (vals .u64 Z4) (by rfl) (by rfl) 25 _ qo4 (by rw [vals_size, LZ.out]; kernel_rfl) (by first | rfl | (rw [vals_size, vals_size, LZ.out]; rfl) | rw [vals_size, vals_size, LZ.out, LZ.out]) vals_one ?_
         intro w5 qo5 hkeep hbg
         have qm5 := hkeep _ _ _ qm4 (Nat.ne_of_gt Nom.out)
         have hb5 := hb4.trans (hbg.mono (by omega))
         clear hkeep hbg hb4 qo4 qm4)
      | (refine wpList_buildTo (by rfl) 25 #[] (by rfl) (some 17) (by rfl) (vals .u64 Z4) (by kernel_rfl) ?_)
      | (have hq0 := hb3
         clear hq0
         go_at_call 36
         refine (P2.out _ _ _ _ xv3 qm3).mono ?_
         rintro e w4 ⟨rfl, hq⟩
         have qo4 := qo3.keep hq
         have qm4 := qm3.keep hq
         have xv4 := rd_here xv3 hq
         have hb4 := hb3.trans (hq.mono (HSS.out _ hb3))
         clear hq hb3 qo3 qm3 xv3)
      | (refine store_abs2 (by rfl) 25 (.tmp 5) (.tmp 12) (by rfl) (by rfl) (w2.heap.size) (vals .u64 mL) (by rfl) (by rfl) 25 (vals .u64 Z4) (Has.new' _ rfl _ _) (by rw [vals_size, LM.out]; kernel_rfl) (by first | rfl | (rw [vals_size, vals_size, LM.out]; rfl)) vals_one ?_
         intro w3 qm3 hkeep hbg
         have hbe := ((Below.refl (w2).heap.size (w2)).alloc (Nat.le_refl _) (.cells (vals .u64 Z4) 25)).trans hbg
         have Nom : Keep (S < w2.heap.size) := ⟨qo2.lt⟩
         have Mm : Keep (S ≤ w2.heap.size) := ⟨HSS.out _ hb2⟩
         have qo3 := qo2.keep hbe
         have xv3 := rd_here xv2 hbe
         have hb3 := hb2.trans (hbe.mono (HSS.out _ hb2))
         clear hkeep hbg hbe hb2 qo2 xv2)
      | (have hq0 := hb1
         clear hq0
         go_at_call 12
         refine (frR_c _).mono ?_
         rintro e w2 ⟨rfl, hq⟩
         have qo2 := qo1.keep hq
         have xv2 := rd_here xv1 hq
         have hb2 := hb1.trans (hq.mono (HSS.out _ hb1))
         clear hq hb1 qo1 xv1)
      | (have hq0 := hb0
         clear hq0
         go_at_call 43
         refine (P1.out _ (HRD.out _ hb0)).mono ?_
         rintro e w1 ⟨A1, c1, rfl, ho, hq⟩
         have qo1 := qo0.keep hq
         have hb1 := hb0.trans (hq.mono (HSS.out _ hb0))
         have xv1 := ho.rd
         clear ho
         clear hq hb0 qo0))
    refine bodyPost_ret (v := .tuple #[.agg (vals .u64 Z4), .int .i64 61]) (results_row_tmp_ rfl _ _ (S) _ _ _ _ _ rfl rfl qo5.eq Try.underlying25 rfl (by rw [vals_size, LZ.out]; kernel_rfl)) rfl ⟨rfl, hb5⟩
  · go_enter Try.func24, Try.ntmps24
    go_wp2_with (first
      | (refine store_abs2 (by rfl) 25 (.tmp 2) (.tmp 17) (by rfl) (by rfl) (S) (vals .u64 Z4) (by rfl) (by rfl) 25 _ qo4 (by rw [vals_size, LZ.out]; kernel_rfl) (by first | rfl | (rw [vals_size, vals_size, LZ.out]; rfl) | rw [vals_size, vals_size, LZ.out, LZ.out]) vals_one ?_
         intro w5 qo5 hkeep hbg
         have qm5 := hkeep _ _ _ qm4 (Nat.ne_of_gt Nom.out)
         have hb5 := hb4.trans (hbg.mono (by omega))
         clear hkeep hbg hb4 qo4 qm4)
      | (refine wpList_buildTo (by rfl) 25 #[] (by rfl) (some 17) (by rfl) (vals .u64 Z4) (by kernel_rfl) ?_)
      | (have hq0 := hb3
         clear hq0
         go_at_call 36
         refine (P2.out _ _ _ _ xv3 qm3).mono ?_
         rintro e w4 ⟨rfl, hq⟩
         have qo4 := qo3.keep hq
         have qm4 := qm3.keep hq
         have xv4 := rd_here xv3 hq
         have hb4 := hb3.trans (hq.mono (HSS.out _ hb3))
         clear hq hb3 qo3 qm3 xv3)
      | (refine store_abs2 (by rfl) 25 (.tmp 5) (.tmp 12) (by rfl) (by rfl) (w2.heap.size) (vals .u64 mL) (by rfl) (by rfl) 25 (vals .u64 Z4) (Has.new' _ rfl _ _) (by rw [vals_size, LM.out]; kernel_rfl) (by first | rfl | (rw [vals_size, vals_size, LM.out]; rfl)) vals_one ?_
         intro w3 qm3 hkeep hbg
         have hbe := ((Below.refl (w2).heap.size (w2)).alloc (Nat.le_refl _) (.cells (vals .u64 Z4) 25)).trans hbg
         have Nom : Keep (S < w2.heap.size) := ⟨qo2.lt⟩
         have Mm : Keep (S ≤ w2.heap.size) := ⟨HSS.out _ hb2⟩
         have qo3 := qo2.keep hbe
         have xv3 := rd_here xv2 hbe
         have hb3 := hb2.trans (hbe.mono (HSS.out _ hb2))
         clear hkeep hbg hbe hb2 qo2 xv2)
      | (have hq0 := hb1
         clear hq0
         go_at_call 12
         refine (frR_c _).mono ?_
         rintro e w2 ⟨rfl, hq⟩
         have qo2 := qo1.keep hq
         have xv2 := rd_here xv1 hq
         have hb2 := hb1.trans (hq.mono (HSS.out _ hb1))
         clear hq hb1 qo1 xv1)
      | (have hq0 := hb0
         clear hq0
         go_at_call 43
         refine (P1.out _ (HRD.out _ hb0)).mono ?_
         rintro e w1 ⟨A1, c1, rfl, ho, hq⟩
         have qo1 := qo0.keep hq
         have hb1 := hb0.trans (hq.mono (HSS.out _ hb0))
         have xv1 := ho.rd
         clear ho
         clear hq hb0 qo0))
    refine bodyPost_ret (v := .tuple #[.agg (vals .u64 Z4), .int .i64 61]) (results_row_tmp_ rfl _ _ (S) _ _ _ _ _ rfl rfl qo5.eq Try.underlying25 rfl (by rw [vals_size, LZ.out]; kernel_rfl)) rfl ⟨rfl, hb5⟩

set_option maxRecDepth 100000 in
set_option maxHeartbeats 2000000 in
theorem frFromBytes_ok (A : Option Addr) (c : Nat) (l : List Int) (B : Nat) (w : World) (hr : Rd w B A 32 .u8 l) (hby : Bytes l) (hB : B ≤ w.heap.size) (hp : ¬ RR ≤ bnum l) : Calls Try.prog 24 #[.slice A 32 c] w fun e w' => e = .returned (.tuple #[.agg (vals .u64 (fr (bnum l))), .int .i64 0]) ∧ Below w.heap.size w w' := by
  have LZ : Keep (Z4.length = 4) := ⟨rfl⟩
  have LM : Keep (mL.length = 4) := ⟨rfl⟩
  have hll := hr.len
  have hnv := num_wordsL_ hby
  have hvl : (wordsL l).length = 4 := by rw [wordsL, wd_len, hll]
  have hvw : Words (wordsL l) := wd_words _ _
  obtain ⟨z, hz, hz0⟩ : ∃ z : Int, cmpL (wordsL l) mL = z ∧ z = -1 := ⟨_, rfl, by
    unfold cmpL
    rw [hnv, num_mL, if_pos (by omega)]⟩
  have hfb : wordsL l = fr (bnum l) := by
    rw [← hnv]
    exact fr_below hvw hvl (by rw [hnv]; omega)
  have P1 : Keep (∀ y : World, Rd y y.heap.size A 32 .u8 l → Calls Try.prog 43 #[.slice A 32 c] y fun e y' => ∃ A'' c'', e = .returned (.slice A'' 4 c'') ∧ Frs y' y.heap.size A'' 4 .u64 (wordsL l) ∧ Below y.heap.size y y') := ⟨fun y h => words_c A 32 c l y.heap.size y h hby (Nat.le_refl _) (by omega)⟩
  have P2 : Keep (∀ (y : World) (A' : Option Addr) (c' g : Nat), Rd y y.heap.size A' 4 .u64 (wordsL l) → Has y g 25 (vals .u64 mL) → Calls Try.prog 36 #[.slice A' 4 c', .slice (some ⟨g, 0, none⟩) 4 4] y fun e y' => e = .returned (.int .i64 z) ∧ Below y.heap.size y y') := ⟨fun y A' c' g h h' => by
    have h1 := cmp_c A' 4 c' (wordsL l) (some ⟨g, 0, none⟩) 4 4 mL y.heap.size y h hvw (Rd.of_has h' h'.lt (by rfl) (by decide)) mL_words (Nat.le_refl _) (by omega) (by omega)
    rw [hz] at h1
    exact h1⟩
  obtain ⟨v, hv⟩ : ∃ v, wordsL l = v := ⟨_, rfl⟩
  have Lv : Keep (v.length = 4) := ⟨by rw [← hv]; exact hvl⟩
  have HAT : Keep (∀ (w : World) (A : Option Addr) (c : Nat), (Instr.arrayAt 25 (.slice A 4 c)).run Try.prog w = .ok (.pointer A) w) := ⟨fun w A c => arrayAt_run Try.underlying25 (by omega)⟩
  rw [← hfb, hv]
  rw [hv] at P1 P2
  obtain ⟨S, hS⟩ : ∃ S, w.heap.size = S := ⟨_, rfl⟩
  have qo0 : Has (w.alloc (.cells (vals .u64 Z4) 25)) (S) 25 (vals .u64 Z4) := by exact (Has.new' _ hS.symm _ _)
  have hb0 : Below S w (w.alloc (.cells (vals .u64 Z4) 25)) := by rw [← hS]; exact ((Below.refl _ _).alloc (Nat.le_refl _) _)
  have hsz0 : (w.alloc (.cells (vals .u64 Z4) 25)).heap.size = S + 1 := by simp only [World.size_alloc, hS]
  have HS0 : Keep (S ≤ w.heap.size) := ⟨by omega⟩
  have HSS : Keep (∀ x : World, Below S w x → S ≤ x.heap.size) := ⟨fun x hb => Nat.le_trans HS0.out hb.size⟩
  rw [hS]
  have HRD : Keep (∀ x : World, Below S w x → Rd x x.heap.size A 32 .u8 l) := ⟨fun x hb => (hr.keep hb (by omega)).more (Nat.le_trans hB (Nat.le_trans (by omega) (HSS.out _ hb)))⟩
  clear hr hby hB hp hll hnv hvl hvw hfb hz hv
  subst hz0
  go_enter Try.func24, Try.ntmps24
  go_wp2_with (first
    | (refine store_abs2 (by rfl) 25 (.tmp 2) (.tmp 20) (by rfl) (by rfl) (S) (vals .u64 v) (by rfl) (by rfl) 25 _ qo4 (by rw [vals_size, Lv.out]; kernel_rfl) (by first | rfl | (rw [vals_size, vals_size, Lv.out]; rfl) | rw [vals_size, vals_size, Lv.out, LZ.out]) vals_one ?_
       intro w5 qo5 hkeep hbg
       have qm5 := hkeep _ _ _ qm4 (Nat.ne_of_gt Nom.out)
       have hb5 := hb4.trans (hbg.mono (by omega))
       clear hkeep hbg hb4 qo4 qm4)
    | (refine load_rd_ (by rfl) 25 (.tmp 19) (by rfl) A1 4 w4.heap.size (by rfl) .u64 v _ xv4 (by omega) Try.underlying25 rfl (by kernel_rfl) ?_)
    | (have hq0 := hb3
       clear hq0
       go_at_call 36
       refine (P2.out _ _ _ _ xv3 qm3).mono ?_
       rintro e w4 ⟨rfl, hq⟩
       have qo4 := qo3.keep hq
       have qm4 := qm3.keep hq
       have xv4 := rd_here xv3 hq
       have hb4 := hb3.trans (hq.mono (HSS.out _ hb3))
       clear hq hb3 qo3 qm3 xv3)
    | (refine store_abs2 (by rfl) 25 (.tmp 5) (.tmp 12) (by rfl) (by rfl) (w2.heap.size) (vals .u64 mL) (by rfl) (by rfl) 25 (vals .u64 Z4) (Has.new' _ rfl _ _) (by rw [vals_size, LM.out]; kernel_rfl) (by first | rfl | (rw [vals_size, vals_size, LM.out]; rfl)) vals_one ?_
       intro w3 qm3 hkeep hbg
       have hbe := ((Below.refl (w2).heap.size (w2)).alloc (Nat.le_refl _) (.cells (vals .u64 Z4) 25)).trans hbg
       have Nom : Keep (S < w2.heap.size) := ⟨qo2.lt⟩
       have Mm : Keep (S ≤ w2.heap.size) := ⟨HSS.out _ hb2⟩
       have qo3 := qo2.keep hbe
       have xv3 := rd_here xv2 hbe
       have hb3 := hb2.trans (hbe.mono (HSS.out _ hb2))
       clear hkeep hbg hbe hb2 qo2 xv2)
    | (have hq0 := hb1
       clear hq0
       go_at_call 12
       refine (frR_c _).mono ?_
       rintro e w2 ⟨rfl, hq⟩
       have qo2 := qo1.keep hq
       have xv2 := rd_here xv1 hq
       have hb2 := hb1.trans (hq.mono (HSS.out _ hb1))
       clear hq hb1 qo1 xv1)
    | (have hq0 := hb0
       clear hq0
       go_at_call 43
       refine (P1.out _ (HRD.out _ hb0)).mono ?_
       rintro e w1 ⟨A1, c1, rfl, ho, hq⟩
       have qo1 := qo0.keep hq
       have hb1 := hb0.trans (hq.mono (HSS.out _ hb0))
       have xv1 := ho.rd
       have hat := fun w => HAT.out w A1 c1
       clear ho
       clear hq hb0 qo0))
  refine bodyPost_ret (v := .tuple #[.agg (vals .u64 v), .int .i64 0]) (results_row_tmp_ rfl _ _ (S) _ _ _ _ _ rfl rfl qo5.eq Try.underlying25 rfl (by rw [vals_size, Lv.out]; kernel_rfl)) rfl ⟨rfl, hb5⟩

end Go.Proofs.Ythaoebamnlmfpaa.Fr
