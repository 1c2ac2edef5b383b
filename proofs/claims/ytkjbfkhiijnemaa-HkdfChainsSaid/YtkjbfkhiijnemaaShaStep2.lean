/-
  Own text. The contracts of the reference's Step and of package sha's digest.
-/
import Derived.Test.YtkjbfkhiijnemaaShaRef
namespace Go.Proofs.Ytkjbfkhiijnemaa.Sha
open Go Go.RowKit Go.Proofs.Ytkjbfkhiijnemaa.Reg
attribute [local go_sem] u32_signed

/-- What the loops of the reference's Step keep. -/
def RStepInv (w : World) (g5 g6 : Nat) (hs ws l : List Int) (wr : World) : Prop :=
  Has wr w.heap.size 40 (vals .u32 hs) ∧ Has wr (w.heap.size + 1 + 1) 40 (vals .u32 Z8) ∧ Has wr g5 51 (vals .u32 ws) ∧ Has wr g6 40 (vals .u32 l) ∧
    Below w.heap.size w wr ∧ w.heap.size + 1 + 1 < g5 ∧ g5 < g6

def addF (hs vs : List Int) (j : Nat) : Int := (nth hs j + nth vs j) % 4294967296
theorem addF_all (hs vs : List Int) : fill 8 (addF hs vs) (nth Z8) 8 = addTo hs vs 8 := by
  refine ext_nth (by rw [fill_len, addTo_len]) fun i hi => ?_
  rw [fill_len] at hi
  rw [fill_nth _ _ _ hi, addTo_nth _ _ _ _ hi, if_pos hi, if_pos hi, addF, Int.add_comm]

set_option maxRecDepth 100000 in
set_option maxHeartbeats 2000000 in
theorem refStep_c (hs bs : List Int) (hh : hs.length = 8) (hl : bs.length = 64) (hby : Bytes bs) (w : World) :
    Calls Try.prog 30 #[.agg (vals .u32 hs), .agg (vals .u8 bs)] w fun e w' => e = .returned (.agg (vals .u32 (stepL hs bs))) ∧ Below w.heap.size w w' := by
  go_enter Try.func30, Try.ntmps30
  have Lh : Keep _ := ⟨hh⟩
  have Ll : Keep _ := ⟨hl⟩
  obtain ⟨ws, hws⟩ : ∃ ws, wseq bs 64 = ws := ⟨_, rfl⟩
  have sc := refSchedule_c bs hl hby
  have hwl := wseq_len bs 64
  rw [hws] at sc hwl
  have Lw : Keep _ := ⟨hwl⟩
  have SC : Keep _ := ⟨sc⟩
  have HW : Keep _ := ⟨hws⟩
  clear hh hl sc hwl hws hby
  have hH2 : Has (((w.alloc (.cells (vals .u32 hs) 40)).alloc (.cells (vals .u8 bs) 34)).alloc (.cells (vals .u32 Z8) 40)) w.heap.size 40 (vals .u32 hs) := ((Has.new w _ _).alloc _).alloc _
  have hB2 : Has (((w.alloc (.cells (vals .u32 hs) 40)).alloc (.cells (vals .u8 bs) 34)).alloc (.cells (vals .u32 Z8) 40)) (w.heap.size + 1) 34 (vals .u8 bs) := (Has.new' _ (by simp) _ _).alloc _
  have hR2 : Has (((w.alloc (.cells (vals .u32 hs) 40)).alloc (.cells (vals .u8 bs) 34)).alloc (.cells (vals .u32 Z8) 40)) (w.heap.size + 1 + 1) 40 (vals .u32 Z8) := Has.new' _ (by simp) _ _
  have hb2 : Below w.heap.size w (((w.alloc (.cells (vals .u32 hs) 40)).alloc (.cells (vals .u8 bs) 34)).alloc (.cells (vals .u32 Z8) 40)) := (((Below.refl _ _).alloc (Nat.le_refl _) _).alloc (by simp) _).alloc (by simp <;> omega) _
  go_wp2_with (first
    | (refine wpList_load_row rfl 34 (.tmp 3) rfl (w.heap.size + 1) rfl _ _ _ _ hB2.eq Try.underlying34 rfl (by rw [vals_size, Ll.out]; kernel_rfl) ?_)
    | (go_at_call 39
       refine (SC.out _).mono ?_
       rintro e w3 ⟨rfl, hb3⟩
       have hH3 := hH2.keep hb3
       have hR3 := hR2.keep hb3
       have hbb3 := hb2.trans (hb3.mono hb2.size)
       have hg5 : w.heap.size + 1 + 1 < w3.heap.size := Nat.lt_of_lt_of_le hR2.lt hb3.size
       clear hH2 hR2 hb2 hb3 hB2)
    | (refine store_abs (by rfl) 51 (.tmp 5) (.tmp 15) (by rfl) (by rfl) w3.heap.size (vals .u32 ws) (by rfl) (by rfl) 51 (vals .u32 Z64) (Has.new' _ rfl _ _) (by rw [vals_size, Lw.out]; kernel_rfl) (by rw [vals_size, vals_size, Lw.out]; rfl) vals_one w.heap.size w (hbb3.alloc (by omega) _) (by omega) ?_
       intro w4 hW hkeep hb4
       have hH4 := hkeep _ _ _ (hH3.alloc _) (by omega)
       have hR4 := hkeep _ _ _ (hR3.alloc _) (by omega)
       have hg6 := hW.lt
       clear hkeep hH3 hR3 hbb3)
    | (refine wpList_load_row rfl 40 (.tmp 2) rfl w.heap.size rfl _ _ _ _ hH4.eq Try.underlying40 rfl (by rw [vals_size, Lh.out]; kernel_rfl) ?_)
    | (refine store_abs (by rfl) 40 (.tmp 6) (.tmp 16) (by rfl) (by rfl) w4.heap.size (vals .u32 hs) (by rfl) (by rfl) 40 (vals .u32 Z8) (Has.new' _ rfl _ _) (by rw [vals_size, Lh.out]; kernel_rfl) (by rw [vals_size, vals_size, Lh.out]; rfl) vals_one w.heap.size w (hb4.alloc (by omega) _) (by omega) ?_
       intro w5 hV hkeep hb5
       have hH5 := hkeep _ _ _ (hH4.alloc _) (by omega)
       have hR5 := hkeep _ _ _ (hR4.alloc _) (by omega)
       have hW5 := hkeep _ _ _ (hW.alloc _) (by omega)
       clear hkeep hH4 hR4 hW hb4))
  go_loopw [7] (fun i wr => ∃ k : Nat, k ≤ 64 ∧ i = .int .i64 k ∧ RStepInv w w3.heap.size w4.heap.size hs ws (rounds ws hs k) wr) (fun i _ => 64 - (intOf i).toNat)
  case atStart => exact ⟨0, Nat.zero_le _, rfl, hH5, hR5, hW5, hV, hb5, hg5, hg6⟩
  case round =>
    clear hH5 hR5 hW5 hV hb5
    obtain ⟨k, hk, rfl, hI⟩ := hrel
    obtain ⟨hH, hR, hW, hV, hb, _, _⟩ := hI
    by_cases hlt : k < 64
    · obtain ⟨a, b, c, d, e, f, g, i, el⟩ := eight (rounds_len ws hs Lh.out k)
      rw [el] at hV
      have E : Keep _ := ⟨el⟩
      clear el
      have c0 : ‹World›.cell? ⟨w4.heap.size, 0, none⟩ = some (.int .u32 a) := hV.cell 0
      have c4 : ‹World›.cell? ⟨w4.heap.size, 4, none⟩ = some (.int .u32 e) := hV.cell 4
      go_wp2
      clear c0 c4
      refine wp_fam_all (by kernel_rfl) (by kernel_rfl) (fun I hI' fw hf hback => ?_)
      have c5 : ∀ j, (fw j).cell? ⟨w4.heap.size, 5, none⟩ = some (.int .u32 f) := fun j => (hV.keep (hf j)).cell 5
      have c6 : ∀ j, (fw j).cell? ⟨w4.heap.size, 6, none⟩ = some (.int .u32 g) := fun j => (hV.keep (hf j)).cell 6
      have c7 : ∀ j, (fw j).cell? ⟨w4.heap.size, 7, none⟩ = some (.int .u32 i) := fun j => (hV.keep (hf j)).cell 7
      have cw : ∀ j, (fw j).cell? ⟨w3.heap.size, k, none⟩ = some (.int .u32 (nth ws k)) := fun j => (hW.keep (hf j)).val (by rw [Lw.out]; exact hlt)
      repeat (go_big_quiet_step (first | (go_at_call 40; exact calls_fam hf hback (turn_c _ _ (by omega) (by omega) _)) | (go_at_call 41; exact calls_fam hf hback (k_c k hlt _))))
      refine wpQuiet_nil ?_
      intro w6 hb6
      clear c5 c6 c7 cw hf hback
      replace hH := hH.keep hb6
      replace hR := hR.keep hb6
      replace hW := hW.keep hb6
      replace hV := hV.keep hb6
      replace hb := hb.trans (hb6.mono hb.size)
      clear hb6
      go_wp2
      refine wp_fam_all (by kernel_rfl) (by kernel_rfl) (fun I hI' fw hf hback => ?_)
      have c1 : ∀ j, (fw j).cell? ⟨w4.heap.size, 1, none⟩ = some (.int .u32 b) := fun j => (hV.keep (hf j)).cell 1
      have c2 : ∀ j, (fw j).cell? ⟨w4.heap.size, 2, none⟩ = some (.int .u32 c) := fun j => (hV.keep (hf j)).cell 2
      repeat (go_big_quiet_step (first | (go_at_call 40; exact calls_fam hf hback (turn_c _ _ (by omega) (by omega) _))))
      refine wpQuiet_nil ?_
      intro w7 hb7
      clear c1 c2 hf hback
      replace hH := hH.keep hb7
      replace hR := hR.keep hb7
      replace hW := hW.keep hb7
      replace hV := hV.keep hb7
      replace hb := hb.trans (hb7.mono hb.size)
      clear hb7
      generalize hX : (((i + bits BinOp.xor IntKind.u32 (bits BinOp.xor IntKind.u32 (rot e 6) (rot e 11)) (rot e 25) + bits BinOp.xor IntKind.u32 (bits BinOp.and IntKind.u32 e f) (bits BinOp.and IntKind.u32 (bits BinOp.xor IntKind.u32 IntKind.u32.max e) g) + nth K k) % 4294967296 + nth ws k) % 4294967296) = X
      generalize hY : (bits BinOp.xor IntKind.u32 (bits BinOp.xor IntKind.u32 (rot a 2) (rot a 13)) (rot a 22) + bits BinOp.xor IntKind.u32 (bits BinOp.xor IntKind.u32 (bits BinOp.and IntKind.u32 a b) (bits BinOp.and IntKind.u32 a c)) (bits BinOp.and IntKind.u32 b c)) % 4294967296 = Y
      have HX : Keep (((i + S1 e + ch e f g + nth K k) % 4294967296 + nth ws k) % 4294967296 = X) := ⟨hX⟩
      have HY : Keep ((S0 a + maj a b c) % 4294967296 = Y) := ⟨hY⟩
      clear hX hY
      have c0 : w7.cell? ⟨w4.heap.size, 0, none⟩ = some (.int .u32 a) := hV.cell 0
      have c1 : w7.cell? ⟨w4.heap.size, 1, none⟩ = some (.int .u32 b) := hV.cell 1
      have c2 : w7.cell? ⟨w4.heap.size, 2, none⟩ = some (.int .u32 c) := hV.cell 2
      have c3 : w7.cell? ⟨w4.heap.size, 3, none⟩ = some (.int .u32 d) := hV.cell 3
      have c4 : w7.cell? ⟨w4.heap.size, 4, none⟩ = some (.int .u32 e) := hV.cell 4
      have c5 : w7.cell? ⟨w4.heap.size, 5, none⟩ = some (.int .u32 f) := hV.cell 5
      have c6 : w7.cell? ⟨w4.heap.size, 6, none⟩ = some (.int .u32 g) := hV.cell 6
      go_wp2_with (first
                | (refine wpList_buildTo (by rfl) 40 #[(0, .tmp 80), (1, .tmp 82), (2, .tmp 84), (3, .tmp 86), (4, .tmp 90), (5, .tmp 92), (6, .tmp 94), (7, .tmp 96)] (by rfl) (some 97) (by rfl) (vals .u32 [(X + Y) % 4294967296, a, b, c, (d + X) % 4294967296, e, f, g]) (by kernel_rfl) ?_)
                | (refine store_abs (by rfl) 40 (.tmp 6) (.tmp 97) (by rfl) (by rfl) w4.heap.size (vals .u32 [(X + Y) % 4294967296, a, b, c, (d + X) % 4294967296, e, f, g]) (by rfl) (by rfl) 40 _ hV (by kernel_rfl) (by rfl) vals_one w.heap.size w hb (by omega) ?_
                   intro w9 hV9 hkeep hb9
                   replace hH := hkeep _ _ _ hH (by omega)
                   replace hR := hkeep _ _ _ hR (by omega)
                   replace hW := hkeep _ _ _ hW (by omega)
                   clear hkeep hV hb c0 c1 c2 c3 c4 c5 c6))
      go_roundw
      case rel =>
        refine ⟨k + 1, by omega, by go_num, hH, hR, hW, ?_, hb9, hg5, hg6⟩
        have e1 : rounds ws hs (k + 1) = [(X + Y) % 4294967296, a, b, c, (d + X) % 4294967296, e, f, g] := by
          show rnd (rounds ws hs k) (nth K k) (nth ws k) = _
          rw [E.out, ← HX.out, ← HY.out]
          show [((i + S1 e + ch e f g + nth K k + nth ws k) % 4294967296 + (S0 a + maj a b c) % 4294967296) % 4294967296, a, b, c, (d + (i + S1 e + ch e f g + nth K k + nth ws k) % 4294967296) % 4294967296, e, f, g] = _
          congr 1
          · omega
          · congr 4
            omega
        rw [e1]
        exact hV9
      case measure => simp [intOf]; omega
    · have ek : k = 64 := by omega
      subst ek
      clear hlt hk
      obtain ⟨vs, hvs⟩ : ∃ vs, rounds ws hs 64 = vs := ⟨_, rfl⟩
      have hvl := rounds_len ws hs Lh.out 64
      rw [hvs] at hV hvl
      have HV : Keep _ := ⟨hvs⟩
      have Lv : Keep _ := ⟨hvl⟩
      clear hvs hvl hW
      generalize wr = w10 at *
      have hO : Has (w10.alloc (.cells (vals .u32 Z8) 40)) w10.heap.size 40 (vals .u32 (fill 8 (addF hs vs) (nth Z8) 0)) := by
        rw [fill_zero 8 _ Z8 rfl]
        exact Has.new _ _ _
      have hgO : w4.heap.size < w10.heap.size := hV.lt
      have hgR : w.heap.size + 1 + 1 < w10.heap.size := hR.lt
      have hbO := hb.alloc (by omega) (.cells (vals .u32 Z8) 40)
      replace hH := hH.alloc (.cells (vals .u32 Z8) 40)
      replace hR := hR.alloc (.cells (vals .u32 Z8) 40)
      replace hV := hV.alloc (.cells (vals .u32 Z8) 40)
      go_wp2
      go_loopw [13] (fun i w2 => ∃ k : Nat, k ≤ 8 ∧ i = .int .i64 k ∧ Has w2 w.heap.size 40 (vals .u32 hs) ∧ Has w2 (w.heap.size + 1 + 1) 40 (vals .u32 Z8) ∧ Has w2 w4.heap.size 40 (vals .u32 vs) ∧ Has w2 w10.heap.size 40 (vals .u32 (fill 8 (addF hs vs) (nth Z8) k)) ∧ Below w.heap.size w w2) (fun i _ => 8 - (intOf i).toNat)
      case atStart => exact ⟨0, Nat.zero_le _, rfl, hH, hR, hV, hO, hbO⟩
      case round =>
        clear hH hR hV hO hbO hb
        obtain ⟨k, hk, rfl, hH, hR, hV, hO, hb⟩ := hrel
        by_cases hlt : k < 8
        · go_wp2
          refine wp_fam 9 (by kernel_rfl) (by kernel_rfl) (fun I hI' fw hf hback => ?_)
          have c0 : ∀ j, (fw j).cell? ⟨w4.heap.size, k, none⟩ = some (.int .u32 (nth vs k)) := fun j => (hV.keep (hf j)).val (by rw [Lv.out]; exact hlt)
          have c1 : ∀ j, (fw j).cell? ⟨w.heap.size, k, none⟩ = some (.int .u32 (nth hs k)) := fun j => (hH.keep (hf j)).val (by rw [Lh.out]; exact hlt)
          simp only [List.take_succ_cons, List.take_zero, List.drop_succ_cons, List.drop_zero]
          repeat (go_big_quiet_step (fail))
          refine wpQuiet_nil ?_
          intro w8 hb8
          have cc := (hO.keep hb8).val (i := k) (by rw [fill_len]; exact hlt)
          have zz := (hO.keep hb8).frozen k
          clear c0 c1 hf hback
          go_wp2
          go_roundw
          case rel =>
            refine ⟨k + 1, by omega, by go_num, (hH.keep hb8).far ?_ _, (hR.keep hb8).far ?_ _, (hV.keep hb8).far ?_ _, ?_, (hb.trans (hb8.mono hb.size)).setCell ?_ _⟩
            · show _ ≠ w10.heap.size; omega
            · show _ ≠ w10.heap.size; omega
            · show _ ≠ w10.heap.size; omega
            · have := (hO.keep hb8).set_ k (.int .u32 ((nth hs k + nth vs k) % 4294967296))
              rwa [vals_set, fill_set (addF hs vs) (nth Z8) hlt (x := (nth hs k + nth vs k) % 4294967296) rfl] at this
            · show _ ≤ w10.heap.size; omega
          case measure => simp [intOf]; omega
        · have ek : k = 8 := by omega
          subst ek
          clear hlt hk
          have hsz : (vals .u32 (fill 8 (addF hs vs) (nth Z8) 8)).size = 8 := by rw [vals_size, fill_len]
          have SZ : Keep _ := ⟨hsz⟩
          clear hsz
          obtain ⟨os, hos⟩ : ∃ os, fill 8 (addF hs vs) (nth Z8) 8 = os := ⟨_, rfl⟩
          rw [hos] at hO SZ
          have HO : Keep _ := ⟨hos⟩
          clear hos
          go_wp2_with (first
            | (refine wpList_load_row rfl 40 (.tmp 12) rfl w10.heap.size rfl _ _ _ _ hO.eq Try.underlying40 rfl (by rw [SZ.out]; kernel_rfl) ?_)
            | (refine wpList_store_rowTo (by rfl) 40 (.tmp 4) (.tmp 111) (by rfl) (by rfl) (w.heap.size + 1 + 1) (vals .u32 os) (by rfl) (by rfl) _ _ hR.eq (by rw [SZ.out]; kernel_rfl) (by rw [SZ.out]; rfl) vals_one ?_))
          have fin : stepL hs bs = os := by unfold stepL; rw [HW.out, HV.out, ← HO.out, addF_all]
          rw [fin]
          refine bodyPost_ret (v := .agg (vals .u32 os)) (results_cell_row rfl _ _ (w.heap.size + 1 + 1) _ _ _ _ rfl (hR.row _).eq Try.underlying40 rfl (by rw [SZ.out]; kernel_rfl)) rfl ⟨rfl, below_row hb (by omega) _⟩
end Go.Proofs.Ytkjbfkhiijnemaa.Sha
