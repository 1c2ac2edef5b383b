/-
  Own text. SubOrders of layer 14.
-/
import Derived.Test.YtpgphhinelljoaaDoorMS14
import Derived.Test.YtpgphhinelljoaaDoorMOrd
namespace Go.Proofs.YtpgphhinelljoaaDoor.S14Q
set_option linter.unusedVariables false
set_option linter.unusedSimpArgs false
open Go Go.RowKit Go.Proofs.YtpgphhinelljoaaDoor.Reg Go.Proofs.YtpgphhinelljoaaDoor.Base Go.Proofs.YtpgphhinelljoaaDoor.Limb Go.Proofs.YtpgphhinelljoaaDoor.Sx Go.Proofs.YtpgphhinelljoaaDoor.Fp Go.Proofs.YtpgphhinelljoaaDoor.Fp2 Go.Proofs.YtpgphhinelljoaaDoor.Ec Go.Proofs.YtpgphhinelljoaaDoor.Pts Go.Proofs.YtpgphhinelljoaaDoor.SubM Go.Proofs.YtpgphhinelljoaaDoor.Ab Go.Proofs.YtpgphhinelljoaaDoor.S14D Go.Proofs.YtpgphhinelljoaaDoor.S14L

theorem of_nx {α : Type} (F : Go.Proofs.YtpgphhinelljoaaDoor.Ec.Fd α) [DecidablePred F.Z] {b : α} (hb : ¬ F.Z b) {n : Nat} (h : ∀ x : EG F b, (gp F hb).nx n x = (gp F hb).O) {A : Pt α} (a : OnP F b A) : Mult F n A none := by
  obtain ⟨C, hC, c⟩ := mult_ex F n a
  have e := (nx_mk F hb (a := a) (c := c) hC).symm.trans (h _)
  exact mult_eq F (eqP_refl F A) (eq_mk F (k := trivial) e) hC
theorem ev1 {A : Pt Int} (a : OnP G1K.K1.F (G1K.K1.F.int 4) A) : Mult G1K.K1.F (rN * hN1) A none := by
  have h := of_nx FI Ord1.hb Ord1.every a
  rw [Nat.mul_comm] at h
  exact h
theorem ev2 {A : Pt G} (a : OnP G2K.K2.F G2K.bb A) : Mult G2K.K2.F (rN * hN2) A none := by
  have h := of_nx FG Ord2.hb Ord2.every a
  rw [Nat.mul_comm] at h
  exact h
theorem of1 {A : Pt Int} (e : onB G1K.K1 (G1K.K1.F.int 4) (A) = false) (m : Nat) : ptW G1K.K1 (mulO G1K.K1 (G1K.K1.F.int 4) m (A)) = [0, 0, 0, 0, 0, 0, 0, 0, 0, 0, 0, 0] ∧ ptB (mulO G1K.K1 (G1K.K1.F.int 4) m (A)) = false := by
  rw [mulO, if_neg (by rw [e]; decide)]
  exact ⟨by rw [ptW, G1K.h0]; rfl, rfl⟩
theorem of2 {A : Pt G} (e : onB G2K.K2 G2K.bb (A) = false) (m : Nat) : ptW G2K.K2 (mulO G2K.K2 G2K.bb m (A)) = [0, 0, 0, 0, 0, 0, 0, 0, 0, 0, 0, 0, 0, 0, 0, 0, 0, 0, 0, 0, 0, 0, 0, 0] ∧ ptB (mulO G2K.K2 G2K.bb m (A)) = false := by
  rw [mulO, if_neg (by rw [e]; decide)]
  exact ⟨by rw [ptW, G2K.h0]; rfl, rfl⟩
set_option maxRecDepth 100000 in
theorem orders (x : List Int) (hx : Nm 12 x) (b : Bool) (y : List Int) (hy : Nm 24 y) (c : Bool) (w : World) (hG : GlobD w) : Calls Tryd.prog 3 #[.agg (vals .u64 x ++ #[.bool b]), .agg (vals .u64 y ++ #[.bool c])] w fun e w' => e = .returned (.bool true) ∧ RowKit.Below w.heap.size w w' := by
  cases e1 : onB G1K.K1 (G1K.K1.F.int 4) (ptv G1K.K1 x b) <;> cases e2 : onB G2K.K2 G2K.bb (ptv G2K.K2 y c)
  · exact fn_outS (N := 9) XA_ok GlobD.keep Tryd.func3 [] (fun s hs => by cases hs) (G1K.noSS hG) (args := [.agg [.nums 12 x, .nm (.bl b)], .agg [.nums 24 y, .nm (.bl c)]]) (q := [false, true, true, false, false, true, true, false]) (v := (.bl !false)) (obs := [qb false ((if onB G1K.K1 (G1K.K1.F.int 4) (ptv G1K.K1 x b) = true then (0 : Int) else 120) = 0), qb true ((if onB G1K.K1 (G1K.K1.F.int 4) (ptv G1K.K1 x b) = true then (0 : Int) else 120) = 120), qb true (ptW G1K.K1 (mulO G1K.K1 (G1K.K1.F.int 4) hN1 (ptv G1K.K1 x b)) = [0, 0, 0, 0, 0, 0, 0, 0, 0, 0, 0, 0] ∧ ptB (mulO G1K.K1 (G1K.K1.F.int 4) hN1 (ptv G1K.K1 x b)) = false), onB G1K.K1 (G1K.K1.F.int 4) (ptv G1K.K1 x b) = false, qb false ((if onB G2K.K2 G2K.bb (ptv G2K.K2 y c) = true then (0 : Int) else 120) = 0), qb true ((if onB G2K.K2 G2K.bb (ptv G2K.K2 y c) = true then (0 : Int) else 120) = 120), qb true (ptW G2K.K2 (mulO G2K.K2 G2K.bb hN2 (ptv G2K.K2 y c)) = [0, 0, 0, 0, 0, 0, 0, 0, 0, 0, 0, 0, 0, 0, 0, 0, 0, 0, 0, 0, 0, 0, 0, 0] ∧ ptB (mulO G2K.K2 G2K.bb hN2 (ptv G2K.K2 y c)) = false), onB G2K.K2 G2K.bb (ptv G2K.K2 y c) = false]) 1 (by kernel_rfl) (hp ((by rw [e1]; exact (by decide : ¬ (120 : Int) = 0))) (hp (if_neg (by rw [e1]; decide)) (hp (of1 e1 _) (hp (e1) (hp ((by rw [e2]; exact (by decide : ¬ (120 : Int) = 0))) (hp (if_neg (by rw [e2]; decide)) (hp (of2 e2 _) (hp (e2) trivial)))))))) (fun v hv => by
      simp only [List.mem_cons, List.not_mem_nil, or_false] at hv
      rcases hv with rfl | rfl
      · exact ⟨hx, trivial, trivial⟩
      · exact ⟨hy, trivial, trivial⟩) rfl (by first | (simp only [List.map_cons, List.map_nil, G1K.p_den, G2K.p_den]; rfl) | simp only [List.map_cons, List.map_nil, G1K.p_den, G2K.p_den])
  · exact fn_outS (N := 9) XA_ok GlobD.keep Tryd.func3 [] (fun s hs => by cases hs) (G1K.noSS hG) (args := [.agg [.nums 12 x, .nm (.bl b)], .agg [.nums 24 y, .nm (.bl c)]]) (q := [false, true, true, false, true, true]) (v := (.bl true)) (obs := [qb false ((if onB G1K.K1 (G1K.K1.F.int 4) (ptv G1K.K1 x b) = true then (0 : Int) else 120) = 0), qb true ((if onB G1K.K1 (G1K.K1.F.int 4) (ptv G1K.K1 x b) = true then (0 : Int) else 120) = 120), qb true (ptW G1K.K1 (mulO G1K.K1 (G1K.K1.F.int 4) hN1 (ptv G1K.K1 x b)) = [0, 0, 0, 0, 0, 0, 0, 0, 0, 0, 0, 0] ∧ ptB (mulO G1K.K1 (G1K.K1.F.int 4) hN1 (ptv G1K.K1 x b)) = false), onB G1K.K1 (G1K.K1.F.int 4) (ptv G1K.K1 x b) = false, qb true ((if onB G2K.K2 G2K.bb (ptv G2K.K2 y c) = true then (0 : Int) else 120) = 0), inB G2K.K2 G2K.bb rN (ptv G2K.K2 (ptW G2K.K2 (mulO G2K.K2 G2K.bb hN2 (ptv G2K.K2 y c))) (ptB (mulO G2K.K2 G2K.bb hN2 (ptv G2K.K2 y c)))) = true]) 1 (by kernel_rfl) (hp ((by rw [e1]; exact (by decide : ¬ (120 : Int) = 0))) (hp (if_neg (by rw [e1]; decide)) (hp (of1 e1 _) (hp (e1) (hp (if_pos e2) (hp (in_cl G2K.K2 ne2 e2 (ev2 ((onB_iff G2K.K2).1 e2))) trivial)))))) (fun v hv => by
      simp only [List.mem_cons, List.not_mem_nil, or_false] at hv
      rcases hv with rfl | rfl
      · exact ⟨hx, trivial, trivial⟩
      · exact ⟨hy, trivial, trivial⟩) rfl (by first | (simp only [List.map_cons, List.map_nil, G1K.p_den, G2K.p_den]; rfl) | simp only [List.map_cons, List.map_nil, G1K.p_den, G2K.p_den])
  · exact fn_outS (N := 9) XA_ok GlobD.keep Tryd.func3 [] (fun s hs => by cases hs) (G1K.noSS hG) (args := [.agg [.nums 12 x, .nm (.bl b)], .agg [.nums 24 y, .nm (.bl c)]]) (q := [true, true, false, true, true, false]) (v := (.bl !false)) (obs := [qb true ((if onB G1K.K1 (G1K.K1.F.int 4) (ptv G1K.K1 x b) = true then (0 : Int) else 120) = 0), inB G1K.K1 (G1K.K1.F.int 4) rN (ptv G1K.K1 (ptW G1K.K1 (mulO G1K.K1 (G1K.K1.F.int 4) hN1 (ptv G1K.K1 x b))) (ptB (mulO G1K.K1 (G1K.K1.F.int 4) hN1 (ptv G1K.K1 x b)))) = true, qb false ((if onB G2K.K2 G2K.bb (ptv G2K.K2 y c) = true then (0 : Int) else 120) = 0), qb true ((if onB G2K.K2 G2K.bb (ptv G2K.K2 y c) = true then (0 : Int) else 120) = 120), qb true (ptW G2K.K2 (mulO G2K.K2 G2K.bb hN2 (ptv G2K.K2 y c)) = [0, 0, 0, 0, 0, 0, 0, 0, 0, 0, 0, 0, 0, 0, 0, 0, 0, 0, 0, 0, 0, 0, 0, 0] ∧ ptB (mulO G2K.K2 G2K.bb hN2 (ptv G2K.K2 y c)) = false), onB G2K.K2 G2K.bb (ptv G2K.K2 y c) = false]) 1 (by kernel_rfl) (hp (if_pos e1) (hp (in_cl G1K.K1 ne1 e1 (ev1 ((onB_iff G1K.K1).1 e1))) (hp ((by rw [e2]; exact (by decide : ¬ (120 : Int) = 0))) (hp (if_neg (by rw [e2]; decide)) (hp (of2 e2 _) (hp (e2) trivial)))))) (fun v hv => by
      simp only [List.mem_cons, List.not_mem_nil, or_false] at hv
      rcases hv with rfl | rfl
      · exact ⟨hx, trivial, trivial⟩
      · exact ⟨hy, trivial, trivial⟩) rfl (by first | (simp only [List.map_cons, List.map_nil, G1K.p_den, G2K.p_den]; rfl) | simp only [List.map_cons, List.map_nil, G1K.p_den, G2K.p_den])
  · exact fn_outS (N := 9) XA_ok GlobD.keep Tryd.func3 [] (fun s hs => by cases hs) (G1K.noSS hG) (args := [.agg [.nums 12 x, .nm (.bl b)], .agg [.nums 24 y, .nm (.bl c)]]) (q := [true, true, true, true]) (v := (.bl true)) (obs := [qb true ((if onB G1K.K1 (G1K.K1.F.int 4) (ptv G1K.K1 x b) = true then (0 : Int) else 120) = 0), inB G1K.K1 (G1K.K1.F.int 4) rN (ptv G1K.K1 (ptW G1K.K1 (mulO G1K.K1 (G1K.K1.F.int 4) hN1 (ptv G1K.K1 x b))) (ptB (mulO G1K.K1 (G1K.K1.F.int 4) hN1 (ptv G1K.K1 x b)))) = true, qb true ((if onB G2K.K2 G2K.bb (ptv G2K.K2 y c) = true then (0 : Int) else 120) = 0), inB G2K.K2 G2K.bb rN (ptv G2K.K2 (ptW G2K.K2 (mulO G2K.K2 G2K.bb hN2 (ptv G2K.K2 y c))) (ptB (mulO G2K.K2 G2K.bb hN2 (ptv G2K.K2 y c)))) = true]) 1 (by kernel_rfl) (hp (if_pos e1) (hp (in_cl G1K.K1 ne1 e1 (ev1 ((onB_iff G1K.K1).1 e1))) (hp (if_pos e2) (hp (in_cl G2K.K2 ne2 e2 (ev2 ((onB_iff G2K.K2).1 e2))) trivial)))) (fun v hv => by
      simp only [List.mem_cons, List.not_mem_nil, or_false] at hv
      rcases hv with rfl | rfl
      · exact ⟨hx, trivial, trivial⟩
      · exact ⟨hy, trivial, trivial⟩) rfl (by first | (simp only [List.map_cons, List.map_nil, G1K.p_den, G2K.p_den]; rfl) | simp only [List.map_cons, List.map_nil, G1K.p_den, G2K.p_den])
end Go.Proofs.YtpgphhinelljoaaDoor.S14Q
