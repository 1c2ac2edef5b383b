/-
  Own text. The walk of the statement ShaSteps; an array of numbers that comes in by value, opened.
-/
import Derived.Test.YtfkhoddlfghiaaaShaLaws4
namespace Go.Proofs.Ytfkhoddlfghiaaa.Reg
open Go
section
variable {H : Type} {enc : TypeId × Value → H} {P : Program} {w W : World} {base base2 : Nat} {spare : Nat → Bool} {held : Bool} {r : Reach}
theorem open_arr {t e : TypeId} {n : Nat} {k : IntKind} {v : Value} {d : DataW H} {p : List MemPlace} (ht : P.underlying t = some (.array n e)) (he : P.underlying e = some (.int k)) (hce : P.cellsOf e = 1) (hct : P.cellsOf t = n)
    (hv : Value.okWide P W r base2 t v) (h : DataW.Trod enc P w base spare held t v d p) : ∃ zs : List Int, v = .agg (vals k zs) ∧ zs.length = n ∧ ∀ z ∈ zs, (Lit.int k z).wf = true := by
  have hagg : ∃ cs, v = .agg cs ∧ cs.size = P.cellsOf t := by
    simp only [Value.okWide, ht] at hv
    obtain ⟨cs, h1, h2, _⟩ := hv
    exact ⟨cs, h1, h2⟩
  obtain ⟨cs, rfl, hs⟩ := hagg
  obtain ⟨fuel, hf⟩ := h
  obtain ⟨xs, m, _, _, hl, hxl, hx⟩ := DataW.trod_array ht hf
  rw [hct] at hs
  have each : ∀ i, i < n → ∃ z, cs[i]? = some (.int k z) ∧ (Lit.int k z).wf = true := by
    intro i hi
    have h1 := hx i hi
    rw [hce, Nat.mul_one] at h1
    rw [List.getElem?_eq_getElem (by omega)] at h1
    obtain ⟨z, hz, _, hwf⟩ := DataW.trod_int he h1
    refine ⟨z, ?_, hwf⟩
    have h2 : ((cs.toList.drop i).take 1)[0]? = some (Value.int k z) := by
      show (List.take 1 (List.drop i (Value.agg cs).cells.toList))[0]? = _
      rw [hz]; rfl
    rw [List.getElem?_take_of_lt (by omega), List.getElem?_drop, Nat.add_zero, Array.getElem?_toList] at h2
    exact h2
  have hz : ∀ i : Fin n, ∃ z, cs[i.1]? = some (.int k z) ∧ (Lit.int k z).wf = true := fun i => each i.1 i.2
  let f : Fin n → Int := fun i => (hz i).choose
  have hf' : ∀ i : Fin n, cs[i.1]? = some (.int k (f i)) ∧ (Lit.int k (f i)).wf = true := fun i => (hz i).choose_spec
  refine ⟨List.ofFn f, ?_, by simp, ?_⟩
  · congr 1
    apply Array.ext
    · simp [vals, hs]
    · intro i h1 h2
      have h3 := (hf' ⟨i, by omega⟩).1
      rw [Array.getElem?_eq_getElem h1] at h3
      injection h3 with h3
      rw [h3]
      simp [vals]
  · intro z hz'
    obtain ⟨i, rfl⟩ := (List.mem_ofFn).1 hz'
    exact (hf' i).2
end
end Go.Proofs.Ytfkhoddlfghiaaa.Reg
namespace Go.Proofs.Ytfkhoddlfghiaaa.Sha
open Go Go.RowKit Go.Proofs.Ytfkhoddlfghiaaa.Reg

theorem bytes_of_wf' {zs : List Int} (h : ∀ n ∈ zs, (Lit.int .u8 n).wf = true) : Bytes zs := by
  have := bytes_of_wf h zs.length
  rwa [List.take_length] at this

set_option maxRecDepth 100000 in
set_option maxHeartbeats 2000000 in
theorem steps_w (hs bs : List Int) (hh : hs.length = 8) (hl : bs.length = 64) (hby : Bytes bs) (w : World) : Calls Try.prog 4 #[.agg (vals .u32 hs), .agg (vals .u8 bs)] w fun e w' => e = .returned (.bool true) ∧ Below w.heap.size w w' := by
  have ST : Keep _ := ⟨step_c hs bs hh hl hby⟩
  have RT : Keep _ := ⟨refStep_c hs bs hh hl hby⟩
  have hsl := stepL_len hs bs
  obtain ⟨ss, hss⟩ : ∃ ss, stepL hs bs = ss := ⟨_, rfl⟩
  rw [hss] at ST RT hsl
  have heq : ∀ w : World, (Op.equalIn 10000 31 (.agg (vals .u32 ss)) (.agg (vals .u32 ss))).run Try.prog w = .ok true w := fun w => by
    rw [equalIn_vals (d := 9998) Try.underlying31 Try.underlying30 (by kernel_rfl) (by kernel_rfl) hsl hsl]
    simp
  have heq2 : ∀ w : World, (Op.equalIn 10000 31 (.agg (vals .u32 H0)) (.agg (vals .u32 H0))).run Try.prog w = .ok true w := fun w => by
    rw [equalIn_vals (d := 9998) Try.underlying31 Try.underlying30 (by kernel_rfl) (by kernel_rfl) rfl rfl]
    simp
  have hgd : Try.prog.eqGuardType Try.prog.depth 31 = false := by kernel_rfl
  have Lh : Keep _ := ⟨hh⟩
  have Ll : Keep _ := ⟨hl⟩
  have hH0 : Has ((w.alloc (.cells (vals .u32 hs) 31)).alloc (.cells (vals .u8 bs) 32)) w.heap.size 31 (vals .u32 hs) := (Has.new w _ _).alloc _
  have hB0 : Has ((w.alloc (.cells (vals .u32 hs) 31)).alloc (.cells (vals .u8 bs) 32)) (w.heap.size + 1) 32 (vals .u8 bs) := Has.new' _ (by simp) _ _
  have hb0 : Below w.heap.size w ((w.alloc (.cells (vals .u32 hs) 31)).alloc (.cells (vals .u8 bs) 32)) := ((Below.refl _ _).alloc (Nat.le_refl _) _).alloc (by simp) _
  clear hss hsl hh hl hby
  go_enter Try.func4, Try.ntmps4
  go_wp2_with (go_at_call 8
               refine (awake_c _).mono ?_
               rintro e w1 ⟨rfl, hb1⟩
               have hH1 := hH0.keep hb1
               have hB1 := hB0.keep hb1
               have hbb1 := hb0.trans (hb1.mono hb0.size)
               clear hH0 hB0 hb0 hb1)
  refine wp_fam_all (by kernel_rfl) (by kernel_rfl) (fun I hI' fw hf hback => ?_)
  repeat (first
    | (go_big_quiet_want
       refine quiet_load_seg 31 (.tmp 2) (by rfl) w.heap.size 0 8 (by rfl) 31 .u32 hs hs _ (fun w' ⟨i, hi⟩ => by rw [hi]; exact hH1.keep (hf i)) Try.underlying31 rfl (by kernel_rfl) (by rw [List.drop_zero, List.take_of_length_le (by rw [Lh.out]; omega)]) (by rw [Lh.out]; omega) ?_
       simp only [Act.put, List.setIfInBounds_toArray, List.set_cons_zero, List.set_cons_succ]
       go_big_quiet_on)
    | (go_big_quiet_want
       refine quiet_load_seg 32 (.tmp 3) (by rfl) (w.heap.size + 1) 0 64 (by rfl) 32 .u8 bs bs _ (fun w' ⟨i, hi⟩ => by rw [hi]; exact hB1.keep (hf i)) Try.underlying32 rfl (by kernel_rfl) (by rw [List.drop_zero, List.take_of_length_le (by rw [Ll.out]; omega)]) (by rw [Ll.out]; omega) ?_
       simp only [Act.put, List.setIfInBounds_toArray, List.set_cons_zero, List.set_cons_succ]
       go_big_quiet_on)
    | go_big_quiet_step (first
        | (go_at_call 14; exact calls_fam hf hback (ST.out _))
        | (go_at_call 15; exact calls_fam hf hback (RT.out _))
        | (go_at_call 16; exact calls_fam hf hback (begin_c _))
        | (go_at_call 17; exact calls_fam hf hback (refBegin_c _))))
  refine wpQuiet_nil ?_
  intro w9 hb9
  clear hf hback
  go_wp2
  go_ret
  exact ⟨rfl, hbb1.trans (hb9.mono hbb1.size)⟩
end Go.Proofs.Ytfkhoddlfghiaaa.Sha
