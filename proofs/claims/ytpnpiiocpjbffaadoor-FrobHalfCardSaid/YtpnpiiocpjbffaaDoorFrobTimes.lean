/-
  Own text. How often a power is taken: a number modulo another one, at least 0 (the document's answer).
-/
import Derived.Test.YtpnpiiocpjbffaaDoorMReg
namespace Go.Proofs.YtpnpiiocpjbffaaDoor.Frob
set_option linter.unusedVariables false
open Go Go.RowKit Go.Proofs.YtpnpiiocpjbffaaDoor.Reg Go.Proofs.YtpnpiiocpjbffaaDoor.Base
theorem tm_nn {n m : Int} (hm : 0 < m) (h : 0 ≤ n.tmod m) : n.tmod m = n % m := by
  have e := Int.tmod_add_mul_tdiv n m
  have l := Int.tmod_lt_of_pos n hm
  have h2 : (n.tmod m + m * n.tdiv m) % m = n.tmod m := by rw [Int.add_mul_emod_self_left, Int.emod_eq_of_lt h l]
  rw [e] at h2
  exact h2.symm
theorem tm_ng {n m : Int} (hm : 0 < m) (h : n.tmod m < 0) : n.tmod m + m = n % m ∧ -m < n.tmod m := by
  have e := Int.tmod_add_mul_tdiv n m
  have l := Int.lt_tmod_of_pos n hm
  have h2 : (n.tmod m + m * n.tdiv m) % m = n.tmod m + m := by
    rw [Int.add_mul_emod_self_left, ← Int.add_emod_right, Int.emod_eq_of_lt (by omega) (by omega)]
  rw [e] at h2
  exact ⟨h2.symm, l⟩
set_option maxRecDepth 100000 in
set_option maxHeartbeats 1000000 in
theorem times_c (n m : Int) (hn : -9223372036854775808 ≤ n ∧ n ≤ 9223372036854775807) (hm : 0 < m ∧ m ≤ 12) (w : World) : Calls Tryd.prog 17 #[.int .i64 n, .int .i64 m] w fun e w' => e = .returned (.int .i64 (n % m)) ∧ w = w' := by
  have h0 : (m == 0) = false := by simp; omega
  go_enter Tryd.func17, Tryd.ntmps17
  go_wp2_with (simp only [h0])
  · rename_i h
    have h3 := tm_ng hm.1 h
    have hw : wrap64 (n.tmod m + m) = n.tmod m + m := by unfold wrap64; omega
    go_ret
    refine ⟨?_, rfl⟩
    show Ending.returned (.int .i64 (wrap64 (n.tmod m + m))) = _
    rw [hw, h3.1]
  · rename_i h
    go_ret
    refine ⟨?_, rfl⟩
    show Ending.returned (.int .i64 (n.tmod m)) = _
    rw [tm_nn hm.1 h]
end Go.Proofs.YtpnpiiocpjbffaaDoor.Frob
