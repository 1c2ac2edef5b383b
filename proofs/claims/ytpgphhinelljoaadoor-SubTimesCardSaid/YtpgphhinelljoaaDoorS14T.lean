/-
  Own text. SubTimes of layer 14.
-/
import Derived.Test.YtpgphhinelljoaaDoorMS14
import Derived.Test.YtpgphhinelljoaaDoorLimbOwn
namespace Go.Proofs.YtpgphhinelljoaaDoor.S14T
set_option linter.unusedVariables false
set_option linter.unusedSimpArgs false
open Go Go.RowKit Go.Proofs.YtpgphhinelljoaaDoor.Reg Go.Proofs.YtpgphhinelljoaaDoor.Base Go.Proofs.YtpgphhinelljoaaDoor.Limb Go.Proofs.YtpgphhinelljoaaDoor.Sx Go.Proofs.YtpgphhinelljoaaDoor.Fp Go.Proofs.YtpgphhinelljoaaDoor.Fp2 Go.Proofs.YtpgphhinelljoaaDoor.Ec Go.Proofs.YtpgphhinelljoaaDoor.Pts Go.Proofs.YtpgphhinelljoaaDoor.SubM Go.Proofs.YtpgphhinelljoaaDoor.S14D Go.Proofs.YtpgphhinelljoaaDoor.S14L Go.Proofs.YtpgphhinelljoaaDoor.SxR

theorem calls_opq5 {P : Program} {g : FuncId} {fn : Func} {c0 c1 c2 c3 c4 R : Code} {args : Array Value} {w : World} {Q : Ending → World → Prop} (K : Act → World → Prop) (hf : P.funcs[g]? = some fn) (hb : fn.body = some (.seq c0 (.seq c1 (.seq c2 (.seq c3 (.seq c4 R))))))
    (hR : ∀ a x, K a x → R.wp P (bodyPost P fn Q) a x) (h : ∀ R', (∀ a x, K a x → R'.wp P (bodyPost P fn Q) a x) → (Code.seq c0 (.seq c1 (.seq c2 (.seq c3 (.seq c4 R'))))).wp P (bodyPost P fn Q) { tmps := args ++ Array.replicate (fn.ntmps - args.size) undef, defers := [] } w) : Calls P g args w Q :=
  calls_of_wp hf hb (h R hR)
def sl0 (A A2 : Option Addr) (n c c2 : Nat) (l m : List Int) (a : Int) : List AV := mkSl 98 [(0, .ext A n c l), (1, .num .u64 a), (5, .val (.bool true)), (7, .ext A2 4 c2 m)]
set_option maxRecDepth 100000 in
theorem rest_ok {A A2 : Option Addr} {n c c2 B B2 : Nat} {l m : List Int} {a : Int} (hw : Words l) (hw2 : Words m) (hn : n ≤ 10000) (hm : (num m).toNat = (num l).toNat % rN) (ha : 0 ≤ a ∧ a < 18446744073709551616) {act : Act} {x : World} (hG0 : GlobD x) (hr : Rd x B A n .u64 l) (hB : B ≤ x.heap.size) (hr2 : Rd x B2 A2 4 .u64 m) (hB2 : B2 ≤ x.heap.size) (h1 : act.tmps.size = 98)
    (h2 : ∀ p ∈ ([(0, .ext A n c l), (1, .num .u64 a), (5, .val (.bool true)), (7, .ext A2 4 c2 m)] : List (Nat × AV)), act.tmps[p.1]? = some (p.2.den [])) (hd : act.defers = []) {Q : Ending → World → Prop} (hQ : ∀ x', RowKit.Below x.heap.size x x' → Q (.returned (.bool true)) x') : (rsN 5 (bodyOf Tryd.f7)).wp Tryd.prog (bodyPost Tryd.prog Tryd.f7 Q) act x := by
  have d1 : (XA.sym (DS [(A, n, l, B), (A2, 4, m, B2)]) []).D A n l := ⟨B, by simp⟩
  have d2 : (XA.sym (DS [(A, n, l, B), (A2, 4, m, B2)]) []).D A2 4 m := ⟨B2, by simp⟩
  have o1 : onB G1K.K1 (G1K.K1.F.int 4) (ptv G1K.K1 (ptW G1K.K1 (mulO G1K.K1 (G1K.K1.F.int 4) (num [a]).toNat (ptv G1K.K1 S12R.BL false))) (ptB (mulO G1K.K1 (G1K.K1.F.int 4) (num [a]).toNat (ptv G1K.K1 S12R.BL false)))) = true := mo_on_v G1K.K1 on_b1 _
  have o2 : onB G2K.K2 G2K.bb (ptv G2K.K2 (ptW G2K.K2 (mulO G2K.K2 G2K.bb (num [a]).toNat (ptv G2K.K2 S13R.BL false))) (ptB (mulO G2K.K2 G2K.bb (num [a]).toNat (ptv G2K.K2 S13R.BL false)))) = true := mo_on_v G2K.K2 on_b2 _
  have i1 := mo_mod G1K.K1 ne1 (r := rN) (in_mo G1K.K1 ne1 in1 (num [a]).toNat) (num l).toNat
  have i2 := mo_mod G2K.K2 ne2 (r := rN) (in_mo G2K.K2 ne2 in2 (num [a]).toNat) (num l).toNat
  rw [← hm] at i1 i2
  have he : evalR Tryd.prog (XA.sym (DS [(A, n, l, B), (A2, 4, m, B2)]) []) 0 9 (rsN 5 (bodyOf Tryd.f7)) Tryd.f7.results.toList (sl0 A A2 n c c2 l m a) [] [true, true, true, true, true, true] = some ([.val (.bool true)], [1 ≤ 10000, 1 ≤ 10000, (XA.sym (DS [(A, n, l, B), (A2, 4, m, B2)]) []).D A n l, n ≤ 10000, (XA.sym (DS [(A, n, l, B), (A2, 4, m, B2)]) []).D A2 4 m, 4 ≤ 10000, (XA.sym (DS [(A, n, l, B), (A2, 4, m, B2)]) []).D A n l, n ≤ 10000, (XA.sym (DS [(A, n, l, B), (A2, 4, m, B2)]) []).D A2 4 m, 4 ≤ 10000, qb true (ptW G1K.K1 (mulO G1K.K1 (G1K.K1.F.int 4) (num l).toNat (ptv G1K.K1 (ptW G1K.K1 (mulO G1K.K1 (G1K.K1.F.int 4) (num [a]).toNat (ptv G1K.K1 S12R.BL false))) (ptB (mulO G1K.K1 (G1K.K1.F.int 4) (num [a]).toNat (ptv G1K.K1 S12R.BL false))))) = ptW G1K.K1 (mulO G1K.K1 (G1K.K1.F.int 4) (num m).toNat (ptv G1K.K1 (ptW G1K.K1 (mulO G1K.K1 (G1K.K1.F.int 4) (num [a]).toNat (ptv G1K.K1 S12R.BL false))) (ptB (mulO G1K.K1 (G1K.K1.F.int 4) (num [a]).toNat (ptv G1K.K1 S12R.BL false))))) ∧ ptB (mulO G1K.K1 (G1K.K1.F.int 4) (num l).toNat (ptv G1K.K1 (ptW G1K.K1 (mulO G1K.K1 (G1K.K1.F.int 4) (num [a]).toNat (ptv G1K.K1 S12R.BL false))) (ptB (mulO G1K.K1 (G1K.K1.F.int 4) (num [a]).toNat (ptv G1K.K1 S12R.BL false))))) = ptB (mulO G1K.K1 (G1K.K1.F.int 4) (num m).toNat (ptv G1K.K1 (ptW G1K.K1 (mulO G1K.K1 (G1K.K1.F.int 4) (num [a]).toNat (ptv G1K.K1 S12R.BL false))) (ptB (mulO G1K.K1 (G1K.K1.F.int 4) (num [a]).toNat (ptv G1K.K1 S12R.BL false)))))), qb true (ptW G2K.K2 (mulO G2K.K2 G2K.bb (num l).toNat (ptv G2K.K2 (ptW G2K.K2 (mulO G2K.K2 G2K.bb (num [a]).toNat (ptv G2K.K2 S13R.BL false))) (ptB (mulO G2K.K2 G2K.bb (num [a]).toNat (ptv G2K.K2 S13R.BL false))))) = ptW G2K.K2 (mulO G2K.K2 G2K.bb (num m).toNat (ptv G2K.K2 (ptW G2K.K2 (mulO G2K.K2 G2K.bb (num [a]).toNat (ptv G2K.K2 S13R.BL false))) (ptB (mulO G2K.K2 G2K.bb (num [a]).toNat (ptv G2K.K2 S13R.BL false))))) ∧ ptB (mulO G2K.K2 G2K.bb (num l).toNat (ptv G2K.K2 (ptW G2K.K2 (mulO G2K.K2 G2K.bb (num [a]).toNat (ptv G2K.K2 S13R.BL false))) (ptB (mulO G2K.K2 G2K.bb (num [a]).toNat (ptv G2K.K2 S13R.BL false))))) = ptB (mulO G2K.K2 G2K.bb (num m).toNat (ptv G2K.K2 (ptW G2K.K2 (mulO G2K.K2 G2K.bb (num [a]).toNat (ptv G2K.K2 S13R.BL false))) (ptB (mulO G2K.K2 G2K.bb (num [a]).toNat (ptv G2K.K2 S13R.BL false)))))), qb true ((if onB G1K.K1 (G1K.K1.F.int 4) (ptv G1K.K1 (ptW G1K.K1 (mulO G1K.K1 (G1K.K1.F.int 4) (num [a]).toNat (ptv G1K.K1 S12R.BL false))) (ptB (mulO G1K.K1 (G1K.K1.F.int 4) (num [a]).toNat (ptv G1K.K1 S12R.BL false)))) = true then (0 : Int) else 120) = 0), qb true ((if onB G1K.K1 (G1K.K1.F.int 4) (ptv G1K.K1 (ptW G1K.K1 (mulO G1K.K1 (G1K.K1.F.int 4) (num [a]).toNat (ptv G1K.K1 S12R.BL false))) (ptB (mulO G1K.K1 (G1K.K1.F.int 4) (num [a]).toNat (ptv G1K.K1 S12R.BL false)))) = true then (0 : Int) else 120) = 0), qb true ((if onB G2K.K2 G2K.bb (ptv G2K.K2 (ptW G2K.K2 (mulO G2K.K2 G2K.bb (num [a]).toNat (ptv G2K.K2 S13R.BL false))) (ptB (mulO G2K.K2 G2K.bb (num [a]).toNat (ptv G2K.K2 S13R.BL false)))) = true then (0 : Int) else 120) = 0), qb true ((if onB G2K.K2 G2K.bb (ptv G2K.K2 (ptW G2K.K2 (mulO G2K.K2 G2K.bb (num [a]).toNat (ptv G2K.K2 S13R.BL false))) (ptB (mulO G2K.K2 G2K.bb (num [a]).toNat (ptv G2K.K2 S13R.BL false)))) = true then (0 : Int) else 120) = 0)]) := by kernel_rfl
  refine tail_ok (gs := []) (G := GS GlobD [(A, n, l, B), (A2, 4, m, B2)]) (XA_ok.toCxB.sym (fun u hu => hu.1) (DS_ok (fun s hs => ?_)) []) rfl (fun u hu => ?_) he (hp (by decide) (hp (by decide) (hp (d1) (hp (hn) (hp (d2) (hp (by decide) (hp (d1) (hp (hn) (hp (d2) (hp (by decide) (hp (i1) (hp (i2) (hp (if_pos o1) (hp (if_pos o1) (hp (if_pos o2) (hp (if_pos o2) trivial)))))))))))))))) (mkSl_ok h1 h2) (mkSl_sok fun p hp => ?_) (Nat.le_refl _) (wd_of (gs := []) (bs := []) rfl fun k t r hk => ?_) hd (fun v hv x' hb gs' => ?_)
  · simp only [List.mem_cons, List.not_mem_nil, or_false] at hs
    rcases hs with rfl | rfl
    · exact hw
    · exact hw2
  · refine GS.keep (fun h k => h.keep k) ⟨hG0, fun s hs => ?_⟩ hu
    simp only [List.mem_cons, List.not_mem_nil, or_false] at hs
    rcases hs with rfl | rfl
    · exact ⟨hB, hr⟩
    · exact ⟨hB2, hr2⟩
  · simp only [List.mem_cons, List.not_mem_nil, or_false] at hp
    rcases hp with rfl | rfl | rfl | rfl
    · trivial
    · exact ha
    · trivial
    · trivial
  · simp at hk
  · have : v = .val (.bool true) := by simpa using hv
    subst this
    exact hQ x' hb
set_option maxRecDepth 100000 in
theorem rC (w : World) (hG : GlobD w) : Calls Tryd.prog 27 #[] w fun e w' => e = .returned (.agg (vals .u64 S14D.rL)) ∧ RowKit.Below w.heap.size w w' := fn_outS (N := 9) S14O.X0_ok GlobD.keep Tryd.func27 [] (fun s hs => by cases hs) (G1K.noSS hG) (args := []) (q := []) (v := (.agg [.nums 4 S14D.rL])) (obs := []) 1 (by kernel_rfl) (trivial) (fun v hv => by cases hv) den_nums rfl
instance : Cz 4 (vals .u64 S14D.rL) := ⟨by rfl, by simp [vals, S14D.rL, Value.oneCell']⟩
instance : Agg Tryd.prog 53 4 := .of Tryd.underlying53 (by kernel_rfl) rfl
theorem awake_c (w : World) (hG : GlobD w) : Calls Tryd.prog 8 #[] w fun e w' => e = .returned (.bool true) ∧ RowKit.Below w.heap.size w w' := (awake [] trivial trivial).2.2 w hG [] trivial
theorem left_num {l : List Int} (hw : Words l) : (num (wd 4 (num l % num S14D.rL))).toNat = (num l).toNat % rN := by
  have h0 := (num_bounds hw).1
  have hr : num S14D.rL = (rN : Int) := by decide +kernel
  have hp : (0 : Int) < num S14D.rL := by decide +kernel
  rw [num_wd_of (Int.emod_nonneg _ (by omega)) (Int.lt_of_lt_of_le (Int.emod_lt_of_pos _ hp) (by decide +kernel)), hr, Int.toNat_emod h0 (by omega)]
  rfl
set_option maxRecDepth 100000 in
set_option maxHeartbeats 4000000 in
theorem times (A : Option Addr) (n c : Nat) (l : List Int) (B : Nat) (hw : Words l) (a : Int) (ha : 0 ≤ a ∧ a < 18446744073709551616) (w : World) (hG : GlobD w) (hr : Rd w B A n .u64 l) (hB : B ≤ w.heap.size) : Calls Tryd.prog 7 #[.slice A n c, .int .u64 a] w fun e w' => e = .returned (.bool true) ∧ RowKit.Below w.heap.size w w' := by
  by_cases h8 : 8 < n
  · exact fn_outS (N := 9) XA_ok GlobD.keep Tryd.func7 [(A, n, l, B)] (fun s hs => by obtain rfl := List.mem_singleton.1 hs; exact hw) ⟨hG, fun s hs => by obtain rfl := List.mem_singleton.1 hs; exact ⟨hB, hr⟩⟩ (args := [.ext A n c l, .num .u64 a]) (q := [true]) (v := (.bl true)) (obs := [qb true (8 < (n : Int))]) 1 (by kernel_rfl) (hp ((show (8 : Int) < (n : Int) by omega)) trivial) (fun v hv => by
      simp only [List.mem_cons, List.not_mem_nil, or_false] at hv
      rcases hv with rfl | rfl
      · trivial
      · exact ha) rfl (by first | (simp only [List.map_cons, List.map_nil, G1K.p_den, G2K.p_den]; rfl) | simp only [List.map_cons, List.map_nil, G1K.p_den, G2K.p_den])
  obtain ⟨S, hS⟩ : ∃ S, w.heap.size = S := ⟨_, rfl⟩
  have HD : Keep (∀ x, RowKit.Below S w x → GlobD x) := keepB hS hG (fun h k => h.keep k)
  have HRD : Keep (∀ x : World, RowKit.Below S w x → Rd x B A n .u64 l) := ⟨fun x hb => hr.keep hb (hS ▸ hB)⟩
  have HBS : Keep (B ≤ S) := ⟨hS ▸ hB⟩
  have HW : Keep (Words l) := ⟨hw⟩
  have HA : Keep (0 ≤ a ∧ a < 18446744073709551616) := ⟨ha⟩
  have H8 : Keep (¬ 8 < n) := ⟨h8⟩
  have HN : Keep (n ≤ 10000) := ⟨by omega⟩
  have HC : decide ((8 : Int) < (n : Int)) = false := decide_eq_false (by omega)
  have H0 := Kn.nil hS
  clear hr hB hw ha hG h8
  refine calls_opq5 (fun act x => ∃ (A2 : Option Addr) (c2 : Nat), GlobD x ∧ Rd x B A n .u64 l ∧ B ≤ x.heap.size ∧ Rd x x.heap.size A2 4 .u64 (wd 4 (num l % num S14D.rL)) ∧ act.tmps.size = 98 ∧ (∀ p ∈ ([(0, .ext A n c l), (1, .num .u64 a), (5, .val (.bool true)), (7, .ext A2 4 c2 (wd 4 (num l % num S14D.rL)))] : List (Nat × AV)), act.tmps[p.1]? = some (p.2.den [])) ∧ act.defers = [] ∧ RowKit.Below w.heap.size w x ∧ w.heap.size ≤ x.heap.size) Tryd.func7 rfl (fun act x h => ?_) (fun R' hR' => ?_)
  · obtain ⟨A2, c2, g1, g2, g3, g4, g5, g6, g7, g8, g9⟩ := h
    exact rest_ok HW.out (wd_words _ _) HN.out (left_num HW.out) HA.out g1 g2 g3 g4 (Nat.le_refl _) g5 g6 g7 (fun x' hb => ⟨rfl, g8.trans (hb.mono g9)⟩)
  simp only [Tryd.ntmps7, List.size_toArray, List.length_cons, List.length_nil, Nat.reduceAdd, Nat.reduceSub, Array.replicate_succ, Array.replicate_zero, List.push_toArray, List.append_toArray, List.nil_append, List.cons_append]
  go_wp2_with (first
    | (go_at_call 28
       refine (Limb.mod_c A n c l (some ⟨w2.heap.size, 0, none⟩) 4 4 S14D.rL w3.heap.size w3 ((HRD.out _ H3.bel).more (Nat.le_trans HBS.out H3.sz)) HW.out (Rd.of_has (H3.at 0 rfl) (H3.at 0 rfl).lt (by rfl) (by decide)) r_words (Nat.le_refl _) HN.out (by omega) (by omega) (by decide +kernel)).mono ?_
       rintro e w4 ⟨A4, c4, rfl, ho, hq⟩
       have H4 := H3.keep hq
       have hx4 := ho.rd
       clear ho hq H3)
    | (refine H2.nv rfl rfl rfl rfl rfl (by kernel_rfl) fun w3 H3 => ?_
       clear H2)
    | (go_at_call 27
       refine H1.call (rC w1 (HD.out _ H1.bel)) fun w2 H2 => ?_
       clear H1)
    | (go_at_call 8
       refine H0.call (awake_c w (HD.out _ H0.bel)) fun w1 H1 => ?_
       clear H0))
  refine hR' _ _ ⟨A4, c4, HD.out _ H4.bel, HRD.out _ H4.bel, Nat.le_trans HBS.out H4.sz, hx4, rfl, fun p hp => ?_, rfl, hS ▸ H4.bel, hS ▸ H4.sz⟩
  simp only [List.mem_cons, List.mem_nil_iff, or_false] at hp
  rcases hp with rfl | rfl | rfl | rfl <;> rfl
end Go.Proofs.YtpgphhinelljoaaDoor.S14T
