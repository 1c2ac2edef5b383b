/-
  Own text. The contract of package sha's Step.
-/
import Derived.Test.YtkjbfkhiijnemaaShaSched
import Derived.Laws.CopyOwn
namespace Go.Proofs.Ytkjbfkhiijnemaa.Sha
open Go Go.RowKit Go.Proofs.Ytkjbfkhiijnemaa.Reg

def Z64 : List Int := List.replicate 64 0
def Z8 : List Int := [0, 0, 0, 0, 0, 0, 0, 0]
/-- What the loops of Step keep: the state ahead, the answer's place, the words k, the block's words, the state. -/
def StepInv (w : World) (g6 g7 : Nat) (hs ws l : List Int) (wr : World) : Prop :=
  Has wr w.heap.size 40 (vals .u32 hs) ∧ Has wr (w.heap.size + 1 + 1) 40 (vals .u32 Z8) ∧ Has wr (w.heap.size + 1 + 1 + 1) 51 (vals .u32 K) ∧ Has wr g6 51 (vals .u32 ws) ∧ Has wr g7 40 (vals .u32 l) ∧
    Below w.heap.size w wr ∧ w.heap.size + 1 + 1 + 1 < g6 ∧ g6 < g7

set_option maxRecDepth 100000 in
set_option maxHeartbeats 1000000 in
theorem step_c (hs bs : List Int) (hh : hs.length = 8) (hl : bs.length = 64) (hby : Bytes bs) (w : World) :
    Calls Try.prog 24 #[.agg (vals .u32 hs), .agg (vals .u8 bs)] w fun e w' => e = .returned (.agg (vals .u32 (stepL hs bs))) ∧ Below w.heap.size w w' := by
  go_enter Try.func24, Try.ntmps24
  have Lh : Keep _ := ⟨hh⟩
  have Ll : Keep _ := ⟨hl⟩
  obtain ⟨ws, hws⟩ : ∃ ws, wseq bs 64 = ws := ⟨_, rfl⟩
  have sc := schedule_c bs hl hby
  have hwl := wseq_len bs 64
  rw [hws] at sc hwl
  have Lw : Keep _ := ⟨hwl⟩
  have SC : Keep _ := ⟨sc⟩
  have HW : Keep _ := ⟨hws⟩
  clear hh hl sc hwl hws hby
  go_wp2_with (first
    | (refine wpList_buildFlatArrTo rfl 51 39 64 _ rfl .u32 K (some 12) rfl Try.underlying51 (by kernel_rfl) (by kernel_rfl) rfl ?_)
    | (refine store_abs (by rfl) 51 (.tmp 5) (.tmp 12) (by rfl) (by rfl) (w.heap.size + 1 + 1 + 1) (vals .u32 K) (by rfl) (by rfl) 51 (vals .u32 Z64) (Has.new' _ (by simp) _ _) (by kernel_rfl) (by rfl) vals_one w.heap.size w ((((Below.refl _ _).alloc (by simp) _).alloc (by simp <;> omega) _).alloc (by simp <;> omega) _ |>.alloc (by simp <;> omega) _) (by omega) ?_
       intro w2 hK hkeep hb2
       have hH := hkeep _ _ _ ((((Has.new w 40 (vals .u32 hs)).alloc _).alloc _).alloc _) (by omega)
       have hB := hkeep _ _ _ (((Has.new' (w.alloc (.cells (vals .u32 hs) 40)) (g := w.heap.size + 1) (by simp) 34 (vals .u8 bs)).alloc _).alloc _) (by omega)
       have hR := hkeep _ _ _ ((Has.new' ((w.alloc (.cells (vals .u32 hs) 40)).alloc (.cells (vals .u8 bs) 34)) (g := w.heap.size + 1 + 1) (by simp) 40 (vals .u32 Z8)).alloc _) (by omega)
       clear hkeep)
    | (refine wpList_load_row rfl 34 (.tmp 3) rfl (w.heap.size + 1) rfl _ _ _ _ hB.eq Try.underlying34 rfl (by rw [vals_size, Ll.out]; kernel_rfl) ?_)
    | (go_at_call 32
       refine (SC.out _).mono ?_
       rintro e w3 ⟨rfl, hb3⟩
       have hH3 := hH.keep hb3
       have hR3 := hR.keep hb3
       have hK3 := hK.keep hb3
       have hbb3 := hb2.trans (hb3.mono hb2.size)
       have hg6 : w.heap.size + 1 + 1 + 1 < w3.heap.size := Nat.lt_of_lt_of_le hK.lt hb3.size
       clear hH hR hK hb2 hb3 hB)
    | (refine store_abs (by rfl) 51 (.tmp 6) (.tmp 14) (by rfl) (by rfl) w3.heap.size (vals .u32 ws) (by rfl) (by rfl) 51 (vals .u32 Z64) (Has.new' _ rfl _ _) (by rw [vals_size, Lw.out]; kernel_rfl) (by rw [vals_size, vals_size, Lw.out]; rfl) vals_one w.heap.size w (hbb3.alloc (by omega) _) (by omega) ?_
       intro w4 hW hkeep hb4
       have hH4 := hkeep _ _ _ (hH3.alloc _) (by omega)
       have hR4 := hkeep _ _ _ (hR3.alloc _) (by omega)
       have hK4 := hkeep _ _ _ (hK3.alloc _) (by omega)
       have hg7 := hW.lt
       clear hkeep hH3 hR3 hK3 hbb3)
    | (refine wpList_load_row rfl 40 (.tmp 2) rfl w.heap.size rfl _ _ _ _ hH4.eq Try.underlying40 rfl (by rw [vals_size, Lh.out]; kernel_rfl) ?_)
    | (refine store_abs (by rfl) 40 (.tmp 7) (.tmp 15) (by rfl) (by rfl) w4.heap.size (vals .u32 hs) (by rfl) (by rfl) 40 (vals .u32 Z8) (Has.new' _ rfl _ _) (by rw [vals_size, Lh.out]; kernel_rfl) (by rw [vals_size, vals_size, Lh.out]; rfl) vals_one w.heap.size w (hb4.alloc (by omega) _) (by omega) ?_
       intro w5 hV hkeep hb5
       have hH5 := hkeep _ _ _ (hH4.alloc _) (by omega)
       have hR5 := hkeep _ _ _ (hR4.alloc _) (by omega)
       have hK5 := hkeep _ _ _ (hK4.alloc _) (by omega)
       have hW5 := hkeep _ _ _ (hW.alloc _) (by omega)
       clear hkeep hH4 hR4 hK4 hW hb4))
  go_loopw [8, 16] (fun _ i wr => ∃ k : Nat, k ≤ 64 ∧ i = .int .i64 k ∧ StepInv w w3.heap.size w4.heap.size hs ws (rounds ws hs k) wr) (fun _ i _ => 64 - (intOf i).toNat)
  case atStart => exact ⟨0, Nat.zero_le _, rfl, hH5, hR5, hK5, hW5, hV, hb5, hg6, hg7⟩
  case round =>
    clear hH5 hR5 hK5 hW5 hV hb5
    obtain ⟨k, hk, rfl, hI⟩ := hrel
    obtain ⟨hH, hR, hK, hW, hV, hb, _, _⟩ := hI
    by_cases hlt : k < 64
    · obtain ⟨a, b, c, d, e, f, g, i, el⟩ := eight (rounds_len ws hs Lh.out k)
      rw [el] at hV
      have E : Keep _ := ⟨el⟩
      clear el
      go_wp2
      refine wp_fam_all (by kernel_rfl) (by kernel_rfl) (fun I hI' fw hf hback => ?_)
      have c4 : ∀ j, (fw j).cell? ⟨w4.heap.size, 4, none⟩ = some (.int .u32 e) := fun j => (hV.keep (hf j)).cell 4
      have c5 : ∀ j, (fw j).cell? ⟨w4.heap.size, 5, none⟩ = some (.int .u32 f) := fun j => (hV.keep (hf j)).cell 5
      have c6 : ∀ j, (fw j).cell? ⟨w4.heap.size, 6, none⟩ = some (.int .u32 g) := fun j => (hV.keep (hf j)).cell 6
      have c7 : ∀ j, (fw j).cell? ⟨w4.heap.size, 7, none⟩ = some (.int .u32 i) := fun j => (hV.keep (hf j)).cell 7
      have ck : ∀ j, (fw j).cell? ⟨w.heap.size + 1 + 1 + 1, k, none⟩ = some (.int .u32 (nth K k)) := fun j => (hK.keep (hf j)).val (by rw [K_len]; exact hlt)
      have cw : ∀ j, (fw j).cell? ⟨w3.heap.size, k, none⟩ = some (.int .u32 (nth ws k)) := fun j => (hW.keep (hf j)).val (by rw [Lw.out]; exact hlt)
      repeat (go_big_quiet_step (first | (go_at_call 33; exact calls_fam hf hback (stateSigma1_c _ _)) | (go_at_call 34; exact calls_fam hf hback (choose_c _ _ _ _))))
      refine wpQuiet_nil ?_
      intro w6 hb6
      clear c4 c5 c6 c7 ck cw hf hback
      replace hH := hH.keep hb6
      replace hR := hR.keep hb6
      replace hK := hK.keep hb6
      replace hW := hW.keep hb6
      replace hV := hV.keep hb6
      replace hb := hb.trans (hb6.mono hb.size)
      clear hb6
      go_wp2
      refine wp_fam_all (by kernel_rfl) (by kernel_rfl) (fun I hI' fw hf hback => ?_)
      have c0 : ∀ j, (fw j).cell? ⟨w4.heap.size, 0, none⟩ = some (.int .u32 a) := fun j => (hV.keep (hf j)).cell 0
      have c1 : ∀ j, (fw j).cell? ⟨w4.heap.size, 1, none⟩ = some (.int .u32 b) := fun j => (hV.keep (hf j)).cell 1
      have c2 : ∀ j, (fw j).cell? ⟨w4.heap.size, 2, none⟩ = some (.int .u32 c) := fun j => (hV.keep (hf j)).cell 2
      repeat (go_big_quiet_step (first | (go_at_call 35; exact calls_fam hf hback (stateSigma0_c _ _)) | (go_at_call 36; exact calls_fam hf hback (majority_c _ _ _ _))))
      refine wpQuiet_nil ?_
      intro w7 hb7
      clear c0 c1 c2 hf hback
      replace hH := hH.keep hb7
      replace hR := hR.keep hb7
      replace hK := hK.keep hb7
      replace hW := hW.keep hb7
      replace hV := hV.keep hb7
      replace hb := hb.trans (hb7.mono hb.size)
      clear hb7
      go_wp2
      refine wp_fam 2 (by kernel_rfl) (by kernel_rfl) (fun I hI' fw hf hback => ?_)
      simp only [List.take_succ_cons, List.take_zero, List.drop_succ_cons, List.drop_zero]
      repeat (go_big_quiet_step (fail))
      refine wpQuiet_nil ?_
      intro w8 hb8
      clear hf hback
      replace hH := hH.keep hb8
      replace hR := hR.keep hb8
      replace hK := hK.keep hb8
      replace hW := hW.keep hb8
      replace hV := hV.keep hb8
      replace hb := hb.trans (hb8.mono hb.size)
      clear hb8
      refine copy_abs (by rfl) (.tmp 52) (.tmp 53) 55 55 (by rfl) 39 Try.underlying55 (by kernel_rfl) w4.heap.size 1 7 7 w4.heap.size 0 7 8 (by rfl) (by rfl) .u32 _ _ _ _ [a, b, c, d, e, f, g] hV hV 7 (by rfl) (by rfl) (by show 1 + 7 ≤ 8; omega) w.heap.size w hb (by omega) ?_
      intro w9 hV9 hkeep hb9
      replace hH := hkeep _ _ _ hH (by omega)
      replace hR := hkeep _ _ _ hR (by omega)
      replace hK := hkeep _ _ _ hK (by omega)
      replace hW := hkeep _ _ _ hW (by omega)
      clear hkeep hV hb
      have c4 : w9.cell? ⟨w4.heap.size, 4, none⟩ = some (.int .u32 d) := hV9.cell 4
      have c0 : w9.cell? ⟨w4.heap.size, 0, none⟩ = some (.int .u32 a) := hV9.cell 0
      have z4 := hV9.frozen 4
      have z0 := hV9.frozen 0
      go_wp2
      go_roundw
      case rel =>
        refine ⟨k + 1, by omega, by go_num, ((hH.far ?_ _).far ?_ _), ((hR.far ?_ _).far ?_ _), ((hK.far ?_ _).far ?_ _), ((hW.far ?_ _).far ?_ _), ?_, (hb9.setCell ?_ _).setCell ?_ _, hg6, hg7⟩
        all_goals first
          | (show _ ≠ w4.heap.size; omega)
          | (show _ ≤ w4.heap.size; omega)
          | skip
        have e1 : rounds ws hs (k + 1) = [(i + S1 e + ch e f g + nth K k + nth ws k + (S0 a + maj a b c)) % 4294967296, a, b, c, (d + (i + S1 e + ch e f g + nth K k + nth ws k)) % 4294967296, e, f, g] := by
          show rnd (rounds ws hs k) (nth K k) (nth ws k) = _
          rw [E.out]
          show [((i + S1 e + ch e f g + nth K k + nth ws k) % 4294967296 + (S0 a + maj a b c) % 4294967296) % 4294967296, a, b, c, (d + (i + S1 e + ch e f g + nth K k + nth ws k) % 4294967296) % 4294967296, e, f, g] = _
          congr 1
          · omega
          · congr 4
            omega
        have h9 := (hV9.set_ 4 (.int .u32 ((d + (i + S1 e + ch e f g + nth K k + nth ws k)) % 4294967296))).set_ 0 (.int .u32 ((i + S1 e + ch e f g + nth K k + nth ws k + (S0 a + maj a b c)) % 4294967296))
        rw [vals_set, vals_set] at h9
        rw [e1]
        exact h9
      case measure => simp [intOf]; omega
    · have ek : k = 64 := by omega
      subst ek
      clear hlt hk
      obtain ⟨vs, hvs⟩ : ∃ vs, rounds ws hs 64 = vs := ⟨_, rfl⟩
      have hvl := rounds_len ws hs Lh.out 64
      rw [hvs] at hV hvl
      have HV : Keep _ := ⟨hvs⟩
      have Lv : Keep _ := ⟨hvl⟩
      clear hvs hvl hW hK
      go_wp2
      go_loopw [11, 65] (fun _ i wr => ∃ k : Nat, k ≤ 8 ∧ i = .int .i64 k ∧ Has wr w.heap.size 40 (vals .u32 hs) ∧ Has wr (w.heap.size + 1 + 1) 40 (vals .u32 Z8) ∧ Has wr w4.heap.size 40 (vals .u32 (addTo hs vs k)) ∧ Below w.heap.size w wr) (fun _ i _ => 8 - (intOf i).toNat)
      case atStart => exact ⟨0, Nat.zero_le _, rfl, hH, hR, (by rw [addTo_zero hs vs Lv.out]; exact hV), hb⟩
      case round =>
        clear hH hR hV hb
        rename_i wr
        obtain ⟨k, hk, rfl, hH, hR, hV, hb⟩ := hrel
        by_cases hlt : k < 8
        · go_wp2
          refine wp_fam 8 (by kernel_rfl) (by kernel_rfl) (fun I hI' fw hf hback => ?_)
          have c0 : ∀ j, (fw j).cell? ⟨w4.heap.size, k, none⟩ = some (.int .u32 (nth vs k)) := fun j => by
            have := (hV.keep (hf j)).val (i := k) (by rw [addTo_len]; exact hlt)
            rwa [addTo_nth _ _ _ _ hlt, if_neg (Nat.lt_irrefl k)] at this
          have c1 : ∀ j, (fw j).cell? ⟨w.heap.size, k, none⟩ = some (.int .u32 (nth hs k)) := fun j => (hH.keep (hf j)).val (by rw [Lh.out]; exact hlt)
          simp only [List.take_succ_cons, List.take_zero, List.drop_succ_cons, List.drop_zero]
          repeat (go_big_quiet_step (fail))
          refine wpQuiet_nil ?_
          intro w8 hb8
          have cc : w8.cell? ⟨w4.heap.size, k, none⟩ = some (.int .u32 (nth vs k)) := by
            have := (hV.keep hb8).val (i := k) (by rw [addTo_len]; exact hlt)
            rwa [addTo_nth _ _ _ _ hlt, if_neg (Nat.lt_irrefl k)] at this
          have zz := (hV.keep hb8).frozen k
          clear c0 c1 hf hback
          go_wp2
          go_roundw
          case rel =>
            refine ⟨k + 1, by omega, by go_num, (hH.keep hb8).far ?_ _, (hR.keep hb8).far ?_ _, ?_, (hb.trans (hb8.mono hb.size)).setCell ?_ _⟩
            · show _ ≠ w4.heap.size; omega
            · show _ ≠ w4.heap.size; omega
            · have := (hV.keep hb8).set_ k (.int .u32 ((nth vs k + nth hs k) % 4294967296))
              rwa [vals_set, addTo_set _ _ _ hlt] at this
            · show _ ≤ w4.heap.size; omega
          case measure => simp [intOf]; omega
        · have ek : k = 8 := by omega
          subst ek
          clear hlt hk
          have hsz : (vals .u32 (addTo hs vs 8)).size = 8 := by rw [vals_size, addTo_len]
          have SZ : Keep _ := ⟨hsz⟩
          clear hsz
          obtain ⟨os, hos⟩ : ∃ os, addTo hs vs 8 = os := ⟨_, rfl⟩
          rw [hos] at hV SZ
          have HO : Keep _ := ⟨hos⟩
          clear hos
          go_wp2_with (first
            | (refine wpList_load_row rfl 40 (.tmp 7) rfl w4.heap.size rfl _ _ _ _ hV.eq Try.underlying40 rfl (by rw [SZ.out]; kernel_rfl) ?_)
            | (refine wpList_store_rowTo (by rfl) 40 (.tmp 4) (.tmp 77) (by rfl) (by rfl) (w.heap.size + 1 + 1) (vals .u32 os) (by rfl) (by rfl) _ _ hR.eq (by rw [SZ.out]; kernel_rfl) (by rw [SZ.out]; rfl) vals_one ?_))
          have fin : stepL hs bs = os := by unfold stepL; rw [HW.out, HV.out, HO.out]
          rw [fin]
          refine bodyPost_ret (v := .agg (vals .u32 os)) (results_cell_row rfl _ _ (w.heap.size + 1 + 1) _ _ _ _ rfl (hR.row _).eq Try.underlying40 rfl (by rw [SZ.out]; kernel_rfl)) rfl ⟨rfl, below_row hb (by omega) _⟩
end Go.Proofs.Ytkjbfkhiijnemaa.Sha
