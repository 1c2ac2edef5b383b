/-
  Own text. The walks of the statements of layer 1.
-/
import Derived.Test.YtfkhoddlfghiaaaShaAwake
import Derived.OpenShut
namespace Go.Proofs.Ytfkhoddlfghiaaa.Sha
open Go Go.RowKit Go.Proofs.Ytfkhoddlfghiaaa.Reg

theorem rd_of_row {w : World} {x : Addr} {k : IntKind} {zs : List Int} {len : Nat} (h : ∀ i, i < zs.length → w.cell? (x.add i) = some (.int k (zs.getD i 0))) (hl : len ≤ zs.length) : Rd w w.heap.size (some x) len k (zs.take len) := by
  refine ⟨by simp; omega, fun hn => ?_⟩
  obtain ⟨b, off, rfl, hc⟩ := ints_at h (by omega)
  have h0 := hc 0 (by omega)
  refine ⟨b, off, rfl, block_lt_of_cell h0, fun j hj => ?_⟩
  rw [hc j (by omega)]
  simp [nth, List.getElem?_take_of_lt hj]
theorem bytes_of_wf {zs : List Int} (h : ∀ n ∈ zs, (Lit.int .u8 n).wf = true) (len : Nat) : Bytes (zs.take len) := bytes_of _ fun i hi => by
  have hm : nth (zs.take len) i ∈ zs := by
    have : nth (zs.take len) i = (zs.take len)[i] := by simp [nth]; simp at hi; simp [hi]
    rw [this]
    exact List.mem_of_mem_take (List.getElem_mem hi)
  have := bounds_u8 (h _ hm)
  omega

set_option maxRecDepth 100000 in
set_option maxHeartbeats 2000000 in
theorem sums_big (A : Option Addr) (n c : Nat) (w : World) (hn : 2000 < n) : Calls Try.prog 3 #[.slice A n c] w fun e w' => e = .returned (.bool true) ∧ Below w.heap.size w w' := by
  go_enter Try.func3, Try.ntmps3
  go_wp2_with (go_at_call 8; refine (awake_c _).mono ?_; rintro e w1 ⟨rfl, hb1⟩)
  go_ret
  exact ⟨rfl, hb1⟩

set_option maxRecDepth 100000 in
set_option maxHeartbeats 2000000 in
theorem sums_small (A : Option Addr) (n c : Nat) (bs : List Int) (w : World) (hr : Rd w w.heap.size A n .u8 bs) (hby : Bytes bs) (hn : ¬ 2000 < n) : Calls Try.prog 3 #[.slice A n c] w fun e w' => e = .returned (.bool true) ∧ Below w.heap.size w w' := by
  obtain ⟨p, hp⟩ : ∃ p, padL bs = p := ⟨_, rfl⟩
  obtain ⟨s, hs⟩ : ∃ s, sumL bs = s := ⟨_, rfl⟩
  have hsl : s.length = 32 := by rw [← hs]; exact sumL_len bs
  have hpl := padLen_le n
  have HP : Keep _ := ⟨hp⟩
  have HS : Keep _ := ⟨hs⟩
  have BY : Keep _ := ⟨hby⟩
  have heq : ∀ w : World, (Op.equalIn 10000 27 (.agg (vals .u8 s)) (.agg (vals .u8 s))).run Try.prog w = .ok true w := fun w => by
    rw [equalIn_vals (d := 9998) Try.underlying27 Try.underlying5 (by kernel_rfl) (by kernel_rfl) hsl hsl]
    simp
  have hgd : Try.prog.eqGuardType Try.prog.depth 27 = false := by kernel_rfl
  obtain ⟨L, hL⟩ : ∃ L, padLen n = L := ⟨_, rfl⟩
  have HL : Keep _ := ⟨hL⟩
  rw [hL] at hpl
  clear hp hs hby hsl hL
  go_enter Try.func3, Try.ntmps3
  go_wp2_with (first
    | (go_at_call 8
       refine (awake_c _).mono ?_
       rintro e w1 ⟨rfl, hb1⟩
       have hr1 := hr.keep hb1 (Nat.le_refl _))
    | (go_at_call 10
       refine (pad_c A n c bs w.heap.size w1 hr1 hb1.size (by omega)).mono ?_
       rintro e w2 ⟨rfl, hP2, hb2⟩
       rw [HP.out] at hP2
       rw [HL.out]
       have hr2 := hr1.keep hb2 hb1.size
       have hbb2 := hb1.trans (hb2.mono hb1.size))
    | (go_at_call 11
       refine (refPad_c A n c bs w.heap.size w2 hr2 hbb2.size (by omega)).mono ?_
       rintro e w3 ⟨A3, c3, rfl, ho3, hb3⟩
       rw [HP.out, HL.out] at ho3
       rw [HL.out]
       have hP3 := hP2.keep hb3
       have hr3 := hr2.keep hb3 hbb2.size
       have hbb3 := hbb2.trans (hb3.mono hbb2.size)
       have hpp : p.length = L := ho3.len)
    | (go_at_call 9
       refine (same_c (some ⟨w1.heap.size, 0, none⟩) A3 L L L c3 p p w3.heap.size w3.heap.size w3 (Rd.of_has hP3 hP3.lt (by rw [List.drop_zero, List.take_of_length_le (by omega)]) (by omega)) (Nat.le_refl _) ho3.rd (Nat.le_refl _) (by omega) (by omega)).mono ?_
       rintro e w4 ⟨rfl, hb4⟩
       rw [decide_eq_true (rfl : p = p)]
       have hr4 := hr3.keep hb4 hbb3.size
       have hbb4 := hbb3.trans (hb4.mono hbb3.size)
       clear hpp)
    | (go_at_call 12
       refine (sum_c A n c bs w.heap.size w4 hr4 BY.out hbb4.size (by omega)).mono ?_
       rintro e w5 ⟨rfl, hb5⟩
       rw [HS.out]
       have hr5 := hr4.keep hb5 hbb4.size
       have hbb5 := hbb4.trans (hb5.mono hbb4.size))
    | (go_at_call 13
       refine (refSum_c A n c bs w.heap.size w5 hr5 BY.out hbb5.size (by omega)).mono ?_
       rintro e w6 ⟨rfl, hb6⟩
       rw [HS.out]
       have hbb6 := hbb5.trans (hb6.mono hbb5.size)))
  go_ret
  exact ⟨rfl, hbb6⟩

/-- What the shell of a statement knows of a slice of bytes that came in. -/
theorem open_row {w : World} {a : Option Addr} {len cap : Nat} {zs : List Int} (h : (a = none ∧ len = 0 ∧ cap = 0 ∧ zs = []) ∨
    ∃ x, a = some x ∧ len ≤ cap ∧ cap ≤ maxLen ∧ zs.length = cap ∧ (∀ i, i < zs.length → w.cell? (x.add i) = some (.int .u8 (zs.getD i 0))) ∧ ∀ n ∈ zs, (Lit.int .u8 n).wf = true) :
    Rd w w.heap.size a len .u8 (zs.take len) ∧ Bytes (zs.take len) := by
  rcases h with ⟨rfl, rfl, rfl, rfl⟩ | ⟨x, rfl, hl, _, hz, hc, hwf⟩
  · exact ⟨Rd.nil_, fun i => by simp [nth]⟩
  · exact ⟨rd_of_row hc (by omega), bytes_of_wf hwf len⟩

theorem sums_w {w : World} {a : Option Addr} {len : Nat} (cap : Nat) {bs : List Int} (h : Rd w w.heap.size a len .u8 bs ∧ Bytes bs) : Calls Try.prog 3 #[.slice a len cap] w fun e w' => e = .returned (.bool true) ∧ Below w.heap.size w w' := by
  by_cases hn : 2000 < len
  · exact sums_big a len cap w hn
  · exact sums_small a len cap bs w h.1 h.2 hn
end Go.Proofs.Ytfkhoddlfghiaaa.Sha
