/-
  Own text. Multiples step by step: the head by tactics, the rest by the reckoner.
-/
import Derived.Test.YtajiinecicghkaaDoorS13B
import Derived.Test.YtajiinecicghkaaDoorSxV
import Derived.Test.YtajiinecicghkaaDoorMRegT
namespace Go.Proofs.YtajiinecicghkaaDoor.S13T
set_option linter.unusedVariables false
set_option linter.unusedSimpArgs false
open Go Go.RowKit Go.Proofs.YtajiinecicghkaaDoor.Reg Go.Proofs.YtajiinecicghkaaDoor.Base Go.Proofs.YtajiinecicghkaaDoor.Limb Go.Proofs.YtajiinecicghkaaDoor.Sx Go.Proofs.YtajiinecicghkaaDoor.Fp Go.Proofs.YtajiinecicghkaaDoor.Fp2 Go.Proofs.YtajiinecicghkaaDoor.Ec Go.Proofs.YtajiinecicghkaaDoor.Pts Go.Proofs.YtajiinecicghkaaDoor.G2K Go.Proofs.YtajiinecicghkaaDoor.S13R Go.Proofs.YtajiinecicghkaaDoor.S13L Go.Proofs.YtajiinecicghkaaDoor.S13B Go.Proofs.YtajiinecicghkaaDoor.SxR Go.Proofs.YtajiinecicghkaaDoor.SxV

def TM : List (FuncId × Ent3) := [(28, entMul)]
abbrev XT : Cx := XA.made TM
theorem XT_ok : CxOk Tryd.prog XT GlobD := XA_ok.made ⟨eMul, trivial⟩
set_option maxRecDepth 100000 in
theorem steps_off (x : List Int) (hx : Nm 24 x) (b : Bool) (m n : Int) (hm : 0 ≤ m ∧ m < 18446744073709551616) (hn : 0 ≤ n ∧ n < 18446744073709551616) (w : World) (hG : GlobD w) (e : onB K2 bb (ptv K2 x b) = false) : Calls Tryd.prog 9 #[.agg (vals .u64 x ++ #[.bool b]), .int .u64 m, .int .u64 n] w fun r w' => r = .returned (.bool true) ∧ RowKit.Below w.heap.size w w' := by
  have h : ptW K2 (mulO K2 bb (num [m]).toNat (ptv K2 x b)) = [0, 0, 0, 0, 0, 0, 0, 0, 0, 0, 0, 0, 0, 0, 0, 0, 0, 0, 0, 0, 0, 0, 0, 0] ∧ ptB (mulO K2 bb (num [m]).toNat (ptv K2 x b)) = false := by
    rw [mulO, if_neg (by rw [e]; decide), ptW, h0]
    exact ⟨rfl, rfl⟩
  exact fn_outS (N := 9) XT_ok GlobD.keep Tryd.func9 [] (fun s hs => by cases hs) (noSS hG) (args := [.agg [.nums 24 x, .nm (.bl b)], .num .u64 m, .num .u64 n]) (q := [false, true, true]) (v := (.bl true)) (obs := [1 ≤ 10000, onB K2 bb (ptv K2 x b) = false, qb true ((if onB K2 bb (ptv K2 x b) = true then (0 : Int) else 120) = 120), qb true (ptW K2 (mulO K2 bb (num [m]).toNat (ptv K2 x b)) = [0, 0, 0, 0, 0, 0, 0, 0, 0, 0, 0, 0, 0, 0, 0, 0, 0, 0, 0, 0, 0, 0, 0, 0] ∧ ptB (mulO K2 bb (num [m]).toNat (ptv K2 x b)) = false)]) 1 (by kernel_rfl) (hp (by decide) (hp (e) (hp (if_neg (by rw [e]; decide)) (hp (h) trivial)))) (fun v hv => by
      simp only [List.mem_cons, List.not_mem_nil, or_false] at hv
      rcases hv with rfl | rfl | rfl
      · exact ⟨hx, trivial, trivial⟩
      · exact hm
      · exact hn) rfl (by simp only [List.map_cons, List.map_nil, p_den]; rfl)
def sl7 (m n s o : Int) (A : Option Addr) (c : Nat) : List AV := mkSl 119 [(1, .num .u64 m), (2, .num .u64 n), (3, .ptr 0 0), (7, .val (.bool true)), (8, .ptr 1 0), (9, .val (.int .i64 0)), (54, .ext A 2 c [s, o])]
def bs7 (x : List Int) (b : Bool) (m : Int) : List Bk := [(29, [.nums 24 x, .nm (.bl b)]), (29, [.nums 24 (ptW K2 (mulO K2 bb (num [m]).toNat (ptv K2 x b))), .nm (.bl (ptB (mulO K2 bb (num [m]).toNat (ptv K2 x b))))])]
def grp (x : List Int) (b : Bool) (m n s o : Int) : List Ob := [qb true ((if onB K2 bb (ptv K2 x b) = true then (0 : Int) else 120) = 0), qb true ((if onB K2 bb (ptv K2 (ptW K2 (mulO K2 bb (num [m]).toNat (ptv K2 x b))) (ptB (mulO K2 bb (num [m]).toNat (ptv K2 x b)))) = true then (0 : Int) else 120) = 0), qb true ((if onB K2 bb (ptv K2 x b) = true then (0 : Int) else 120) = 0), qb true ((if onB K2 bb (ptv K2 x b) = true then (0 : Int) else 120) = 0), qb true (ptW K2 (addP K2.F (ptv K2 (ptW K2 (mulO K2 bb (num [m]).toNat (ptv K2 x b))) (ptB (mulO K2 bb (num [m]).toNat (ptv K2 x b)))) (ptv K2 x b)) = ptW K2 (mulO K2 bb (num [s, o]).toNat (ptv K2 x b)) ∧ ptB (addP K2.F (ptv K2 (ptW K2 (mulO K2 bb (num [m]).toNat (ptv K2 x b))) (ptB (mulO K2 bb (num [m]).toNat (ptv K2 x b)))) (ptv K2 x b)) = ptB (mulO K2 bb (num [s, o]).toNat (ptv K2 x b))), qb true (ptW K2 (mulO K2 bb (num [n]).toNat (ptv K2 (ptW K2 (mulO K2 bb (num [m]).toNat (ptv K2 x b))) (ptB (mulO K2 bb (num [m]).toNat (ptv K2 x b))))) = ptW K2 (mulO K2 bb (num (wd 2 (num [m] * num [n]))).toNat (ptv K2 x b)) ∧ ptB (mulO K2 bb (num [n]).toNat (ptv K2 (ptW K2 (mulO K2 bb (num [m]).toNat (ptv K2 x b))) (ptB (mulO K2 bb (num [m]).toNat (ptv K2 x b))))) = ptB (mulO K2 bb (num (wd 2 (num [m] * num [n]))).toNat (ptv K2 x b))), qb true (ptW K2 (mulO K2 bb (num []).toNat (ptv K2 x b)) = [0, 0, 0, 0, 0, 0, 0, 0, 0, 0, 0, 0, 0, 0, 0, 0, 0, 0, 0, 0, 0, 0, 0, 0] ∧ ptB (mulO K2 bb (num []).toNat (ptv K2 x b)) = true)]
theorem grp_ok {x : List Int} {b : Bool} {m n s o : Int} (hm : 0 ≤ m ∧ m < 18446744073709551616) (hn : 0 ≤ n ∧ n < 18446744073709551616) (hso : num [s, o] = m + 1) (hon : onB K2 bb (ptv K2 x b) = true) : Holds (grp x b m n s o) := by
  have on := (onB_iff K2).1 hon
  have nm := (one_word hm.1 (by omega)).2
  have nn := (one_word hn.1 (by omega)).2
  have eM : mulO K2 bb (num [m]).toNat (ptv K2 x b) = mulP K2.F (num [m]).toNat (ptv K2 x b) := mulO_on K2 on _
  have ov : OnP K2.F bb (ptv K2 (ptW K2 (mulO K2 bb (num [m]).toNat (ptv K2 x b))) (ptB (mulO K2 bb (num [m]).toNat (ptv K2 x b)))) := onP_eq K2.F (eqP_symm K2.F (ptv_out K2 _)) (by rw [eM]; exact mul_on K2 on _)
  refine ⟨if_pos hon, if_pos ((onB_iff K2).2 ov), if_pos hon, if_pos hon, sm K2 ?_, sm K2 ?_, ?_, trivial⟩
  · rw [mulO_on K2 on (num [s, o]).toNat, show (num [s, o]).toNat = (num [m]).toNat + 1 by rw [hso, nm]; omega]
    refine add_eq' K2.F (eqP_trans K2.F (ptv_out K2 _) ?_) (eqP_refl K2.F _)
    rw [eM]
    exact eqP_refl K2.F _
  · have hb : num [m] * num [n] < wp 2 := by
      rw [nm, nn, show wp 2 = 340282366920938463463374607431768211456 from rfl]
      have h3 : m * n ≤ 18446744073709551615 * n := Int.mul_le_mul_of_nonneg_right (by omega) hn.1
      omega
    rw [mulO_on K2 ov, mulO_on K2 on (num (wd 2 (num [m] * num [n]))).toNat, num_wd_of (Int.mul_nonneg (by rw [nm]; exact hm.1) (by rw [nn]; exact hn.1)) hb, Int.mul_comm, Int.toNat_mul (by rw [nn]; exact hn.1) (by rw [nm]; exact hm.1)]
    refine eqP_trans K2.F (mulP_eq K2 (eqP_trans K2.F (ptv_out K2 _) (by rw [eM]; exact eqP_refl K2.F _)) _) (mul_mul K2 four_ne on _ _)
  · rw [mulO_on K2 on]
    exact ⟨rfl, rfl⟩
set_option maxRecDepth 100000 in
theorem mkS0 (y : World) : (Instr.buildSlice 35 0 #[]).run Tryd.prog y = .ok (.slice (some ⟨y.heap.size, 0, none⟩) 0 0) (y.alloc (.cells (vals .u64 []) 23)) := by
  obtain ⟨ie, z, h1, h2, h3, h4⟩ : ∃ ie z, Tryd.prog.info? 23 = some ie ∧ ie.zero = some z ∧ ie.size = 1 ∧ (Array.range (0 * 1)).map (z.cells[· % z.cells.size]!) = vals .u64 [] := ⟨_, _, rfl, rfl, rfl, by kernel_rfl⟩
  simp [Instr.buildSlice, run_underlying Tryd.underlying35, sizeOf, typeInfo, zeroValue, h1, h2, h3, newRow, Instr.fill, vals, show Array.range 0 = #[] from by simp]
set_option maxRecDepth 100000 in
theorem mkS1 (v : Int) (y : World) : (Instr.buildSlice 35 1 #[(0, .int .u64 v)]).run Tryd.prog y = .ok (.slice (some ⟨y.heap.size, 0, none⟩) 1 1) (y.alloc (.cells (vals .u64 [v]) 23)) := by
  obtain ⟨ie, z, h1, h2, h3, h4⟩ : ∃ ie z, Tryd.prog.info? 23 = some ie ∧ ie.zero = some z ∧ ie.size = 1 ∧ (Array.range (1 * 1)).map (z.cells[· % z.cells.size]!) = vals .u64 [0] := ⟨_, _, rfl, rfl, rfl, by kernel_rfl⟩
  refine run_buildSlice y _ _ 1 _ (vals .u64 [v]) ie z Tryd.underlying35 h1 h2 (by rw [h3]; decide) (by rw [h3]; decide) ?_
  rw [h3, h4]
  rfl
def sl8 (x : List Int) (b : Bool) (m n : Int) : List AV := mkSl 119 [(1, .num .u64 m), (2, .num .u64 n), (3, .ptr 0 0), (7, .val (.bool true)), (8, .ptr 1 0), (9, .val (.int .i64 0)), (12, .ptr 2 0), (13, .num .i64 (if onB K2 bb (ptv K2 x b) = true then (0 : Int) else 120))]
def bs8 (x : List Int) (b : Bool) (m s o : Int) : List Bk := bs7 x b m ++ [(29, [.nums 24 (ptW K2 (mulO K2 bb (num [s, o]).toNat (ptv K2 x b))), .nm (.bl (ptB (mulO K2 bb (num [s, o]).toNat (ptv K2 x b))))])]
theorem happ : ∀ {a b : List Ob}, Holds a → Holds b → Holds (a ++ b)
  | [], _, _, h => h
  | _ :: _, _, h, h' => ⟨h.1, happ h.2 h'⟩
set_option maxRecDepth 100000 in
theorem ev8 (x : List Int) (b : Bool) (m n s o : Int) : evalR Tryd.prog XT 3 9 (rsN 6 (bodyOf Tryd.f9)) Tryd.f9.results.toList (sl8 x b m n) (bs8 x b m s o) [true, true, true, true, true, true, true] = some (List.replicate 8 (.val (.bool true)), [1 ≤ 10000, 2 ≤ 10000, 2 ≤ 10000, 2 ≤ 10000, 2 ≤ 10000, 2 ≤ 10000, 2 ≤ 10000, 2 ≤ 10000, 2 ≤ 10000] ++ (grp x b m n s o ++ (grp x b m n s o ++ (grp x b m n s o ++ (grp x b m n s o ++ (grp x b m n s o ++ (grp x b m n s o ++ (grp x b m n s o ++ (grp x b m n s o))))))))) := by kernel_rfl
set_option maxRecDepth 100000 in
theorem rest7 {x : List Int} (hx : Nm 24 x) {b : Bool} {m n s o : Int} (hm : 0 ≤ m ∧ m < 18446744073709551616) (hn : 0 ≤ n ∧ n < 18446744073709551616) (hso : num [s, o] = m + 1) (hon : onB K2 bb (ptv K2 x b) = true) {g0 g1 g2 : Nat} {act : Act} {y : World} (hG : GlobD y) (h1 : act.tmps.size = 119)
    (h2 : ∀ p ∈ ([(1, .num .u64 m), (2, .num .u64 n), (3, .ptr 0 0), (7, .val (.bool true)), (8, .ptr 1 0), (9, .val (.int .i64 0)), (12, .ptr 2 0), (13, .num .i64 (if onB K2 bb (ptv K2 x b) = true then (0 : Int) else 120))] : List (Nat × AV)), act.tmps[p.1]? = some (p.2.den [g0, g1, g2])) (hd : act.defers = []) (q1 : Has y g0 29 (vals .u64 x ++ #[.bool b])) (q2 : Has y g1 29 (ptA (mulO K2 bb (num [m]).toNat (ptv K2 x b)))) (q3 : Has y g2 29 (ptA (mulO K2 bb (num [s, o]).toNat (ptv K2 x b))))
    {Q : Ending → World → Prop} (hQ : ∀ x', RowKit.Below y.heap.size y x' → Q (.returned (.bool true)) x') : (rsN 6 (bodyOf Tryd.f9)).wp Tryd.prog (bodyPost Tryd.prog Tryd.f9 Q) act y := by
  have hgr := grp_ok (s := s) (o := o) hm hn hso hon
  refine tail_ok (gs := [g0, g1, g2]) (m := 3) (N := 9) XT_ok.toCxB rfl (fun u hu => hG.keep hu) (ev8 x b m n s o) (happ (by simp [Holds]) (happ hgr (happ hgr (happ hgr (happ hgr (happ hgr (happ hgr (happ hgr (hgr))))))))) (mkSl_ok h1 h2) (mkSl_sok fun p hp => ?_) (Nat.le_refl _) (wd_of (x := y) (gs := [g0, g1, g2]) (bs := bs8 x b m s o) rfl fun k t r hk => ?_) hd (fun v hv x' hb gs' => ?_)
  · simp only [List.mem_cons, List.not_mem_nil, or_false] at hp
    rcases hp with rfl | rfl | rfl | rfl | rfl | rfl | rfl | rfl
    · exact hm
    · exact hn
    all_goals first | trivial | (show _ < 3; decide)
  · match k, hk with
    | 0, hk => obtain ⟨rfl, rfl⟩ : 29 = t ∧ [.nums 24 x, .nm (.bl b)] = r := by simpa [bs8, bs7] using hk
               exact ⟨by rw [show (den [.nums 24 x, .nm (.bl b)]).toArray = (vals .u64 x ++ #[.bool b]) by simp [den, Sg.den, NV.den, vals]]; exact q1, hx, trivial, trivial⟩
    | 1, hk => obtain ⟨rfl, rfl⟩ : 29 = t ∧ [.nums 24 (ptW K2 (mulO K2 bb (num [m]).toNat (ptv K2 x b))), .nm (.bl (ptB (mulO K2 bb (num [m]).toNat (ptv K2 x b))))] = r := by simpa [bs8, bs7] using hk
               exact ⟨by rw [ptA_den]; exact q2, nm_ptW K2 _, trivial, trivial⟩
    | 2, hk => obtain ⟨rfl, rfl⟩ : 29 = t ∧ [.nums 24 (ptW K2 (mulO K2 bb (num [s, o]).toNat (ptv K2 x b))), .nm (.bl (ptB (mulO K2 bb (num [s, o]).toNat (ptv K2 x b))))] = r := by simpa [bs8, bs7] using hk
               exact ⟨by rw [ptA_den]; exact q3, nm_ptW K2 _, trivial, trivial⟩
    | k + 3, hk => simp [bs8, bs7] at hk
  · obtain rfl := List.eq_of_mem_replicate (n := 8) hv
    exact hQ x' hb
set_option maxRecDepth 100000 in
set_option maxHeartbeats 2000000 in
theorem rest6 {x : List Int} (hx : Nm 24 x) {b : Bool} {m n s o : Int} (hm : 0 ≤ m ∧ m < 18446744073709551616) (hn : 0 ≤ n ∧ n < 18446744073709551616) (hws : Words [s, o]) (hso : num [s, o] = m + 1) (hon : onB K2 bb (ptv K2 x b) = true) {A1 : Option Addr} {c1 g0 g1 : Nat} {act : Act} {y0 : World} (hG0 : GlobD y0) (h1 : act.tmps.size = 119)
    (h2 : ∀ p ∈ ([(1, .num .u64 m), (2, .num .u64 n), (3, .ptr 0 0), (7, .val (.bool true)), (8, .ptr 1 0), (9, .val (.int .i64 0))] : List (Nat × AV)), act.tmps[p.1]? = some (p.2.den [g0, g1])) (h10 : act.tmps[10]? = some (.slice A1 1 c1)) (h11 : act.tmps[11]? = some (.int .u64 o)) (hd : act.defers = []) (q1 : Has y0 g0 29 (vals .u64 x ++ #[.bool b])) (q2 : Has y0 g1 29 (ptA (mulO K2 bb (num [m]).toNat (ptv K2 x b)))) (hr : Rd y0 y0.heap.size A1 1 .u64 [s])
    {Q : Ending → World → Prop} (hQ : ∀ x', RowKit.Below y0.heap.size y0 x' → Q (.returned (.bool true)) x') : (rsN 5 (bodyOf Tryd.f9)).wp Tryd.prog (bodyPost Tryd.prog Tryd.f9 Q) act y0 := by
  have hcz : Cz 25 (vals .u64 x ++ #[.bool b]) := ⟨by simp [vals_size, hx.len], by simp [vals, Value.oneCell']⟩
  have fin8 : ∀ (b3 : Act) (g : Nat) (w' : World), b3.tmps.size = 119 → (∀ p ∈ ([(1, .num .u64 m), (2, .num .u64 n), (3, .ptr 0 0), (7, .val (.bool true)), (8, .ptr 1 0), (9, .val (.int .i64 0))] : List (Nat × AV)), b3.tmps[p.1]? = some (p.2.den [g0, g1])) → b3.tmps[12]? = some (.pointer (some ⟨g, 0, none⟩)) → b3.tmps[13]? = some (.int .i64 (if onB K2 bb (ptv K2 x b) = true then (0 : Int) else 120)) → b3.defers = [] → RowKit.Below y0.heap.size y0 w' → y0.heap.size ≤ w'.heap.size → Has w' g 29 (ptA (mulO K2 bb (num [s, o]).toNat (ptv K2 x b))) → (rsN 6 (bodyOf Tryd.f9)).wp Tryd.prog (bodyPost Tryd.prog Tryd.f9 Q) b3 w' := fun b3 g w' k1 k2 k3 k4 k5 hb hs hh => by
    refine rest7 hx hm hn hso hon (g0 := g0) (g1 := g1) (g2 := g) (hG0.keep hb) k1 (fun p hp => ?_) k5 (q1.keep hb) (q2.keep hb) hh (fun x' hx' => hQ x' (hb.trans (hx'.mono hs)))
    have hq : p ∈ ([(1, .num .u64 m), (2, .num .u64 n), (3, .ptr 0 0), (7, .val (.bool true)), (8, .ptr 1 0), (9, .val (.int .i64 0))] : List (Nat × AV)) ∨ p = (12, .ptr 2 0) ∨ p = (13, .num .i64 (if onB K2 bb (ptv K2 x b) = true then (0 : Int) else 120)) := by
      simp only [List.mem_cons, List.not_mem_nil, or_false] at hp ⊢
      rcases hp with h | h | h | h | h | h | h | h <;> simp [h]
    rcases hq with hq | rfl | rfl
    · have h3 := k2 p hq
      simp only [List.mem_cons, List.not_mem_nil, or_false] at hq
      rcases hq with rfl | rfl | rfl | rfl | rfl | rfl <;> exact h3
    · exact k3
    · exact k4
  have hc : rsN 5 (bodyOf Tryd.f9) = .seq (.region 6 ((rg (rsN 5 (bodyOf Tryd.f9))).toArray) true) (rsN 6 (bodyOf Tryd.f9)) := by kernel_rfl
  have hb0 : RowKit.Below y0.heap.size y0 y0.drew := ⟨rfl, rfl, rfl, Nat.le_refl _, fun _ _ => rfl⟩
  rw [hc]
  refine wp_seq ?_
  refine wp_regionU (S := fun u => RowKit.Below y0.drew.heap.size y0.drew u) (by kernel_rfl) ?_
  have hsel : Region.noSelect ((rg (rsN 5 (bodyOf Tryd.f9))).toArray) = true := by kernel_rfl
  suffices key : ∀ k, k = 6 + 4 + 1 + 1 + 1 + 1 → wpAnyU Tryd.prog .any ((rg (rsN 5 (bodyOf Tryd.f9))).toArray) (Exit.then (fun a x => (rsN 6 (bodyOf Tryd.f9)).wp Tryd.prog (bodyPost Tryd.prog Tryd.f9 Q) a x) (bodyPost Tryd.prog Tryd.f9 Q)) (fun u => RowKit.Below y0.drew.heap.size y0.drew u) k (Array.replicate ((rg (rsN 5 (bodyOf Tryd.f9))).toArray).size false) act y0.drew from key _ (by kernel_rfl)
  intro k hk
  subst hk
  have hS : ∀ u v : World, RowKit.Below y0.drew.heap.size y0.drew u → RowKit.Below u.heap.size u v → RowKit.Below y0.drew.heap.size y0.drew v := fun u v h h' => h.trans (h'.mono h.size)
  refine wpAnyU_take (i := 1) (oi := (opAt ((rg (rsN 5 (bodyOf Tryd.f9))).toArray) 1)) hS (by kernel_rfl) hsel (by kernel_rfl) (by kernel_rfl) (post_panic _) (RowKit.Below.refl _ _) (st_move (by kernel_rfl) (p := .tmp 10) (by kernel_rfl) (eval_of h10)) ?_
  rw [show (opAt ((rg (rsN 5 (bodyOf Tryd.f9))).toArray) 1).dst = some 50 from (by kernel_rfl)]
  refine wpAnyU_take (i := 3) (oi := (opAt ((rg (rsN 5 (bodyOf Tryd.f9))).toArray) 3)) hS (by kernel_rfl) hsel (by kernel_rfl) (by kernel_rfl) (post_panic _) (RowKit.Below.refl _ _) (st_move (by kernel_rfl) (p := .tmp 11) (by kernel_rfl) (eval_of ((put_ne (by decide)).trans h11))) ?_
  rw [show (opAt ((rg (rsN 5 (bodyOf Tryd.f9))).toArray) 3).dst = some 52 from (by kernel_rfl)]
  refine wpAnyU_take (i := 6) (oi := (opAt ((rg (rsN 5 (bodyOf Tryd.f9))).toArray) 6)) hS (by kernel_rfl) hsel (by kernel_rfl) (by kernel_rfl) (post_panic _) (RowKit.Below.refl _ _) (st_load (g := g0) (t := 29) (ty := 29) (n := 25) (cs := (vals .u64 x ++ #[.bool b])) (fun u hu => (q1.keep hb0).keep hu) (by kernel_rfl) (p := .tmp 3) (by kernel_rfl) (eval_of (((put_ne (by decide)).trans (put_ne (by decide))).trans (h2 (3, .ptr 0 0) (by simp))))) ?_
  rw [show (opAt ((rg (rsN 5 (bodyOf Tryd.f9))).toArray) 6).dst = some 55 from (by kernel_rfl)]
  have z1 : (act.put (some 50) (.slice A1 1 c1)).tmps.size = 119 := by rw [Act.size_put, h1]
  have z2 : ((act.put (some 50) (.slice A1 1 c1)).put (some 52) (.int .u64 o)).tmps.size = 119 := by rw [Act.size_put, z1]
  have z3 : (((act.put (some 50) (.slice A1 1 c1)).put (some 52) (.int .u64 o)).put (some 55) (.agg (vals .u64 x ++ #[.bool b]))).tmps.size = 119 := by rw [Act.size_put, z2]
  have hal : AllocAt Tryd.prog ((rg (rsN 5 (bodyOf Tryd.f9))).toArray) 11 12 29 (vals .u64 (List.replicate 24 0) ++ #[.bool false]) := ⟨⟨(opAt ((rg (rsN 5 (bodyOf Tryd.f9))).toArray) 11), (by kernel_rfl), (by kernel_rfl), (by kernel_rfl), (by kernel_rfl)⟩, _, _, rfl, rfl, (by kernel_rfl)⟩
  refine two_apps (f := 6) (i := 0) (j := 2) (k := 4) (m := 5) (n := 11) (oi := (opAt ((rg (rsN 5 (bodyOf Tryd.f9))).toArray) 0)) (oj := (opAt ((rg (rsN 5 (bodyOf Tryd.f9))).toArray) 2)) (ok := (opAt ((rg (rsN 5 (bodyOf Tryd.f9))).toArray) 4)) (om := (opAt ((rg (rsN 5 (bodyOf Tryd.f9))).toArray) 5)) (d0 := 49) (d1 := 50) (d2 := 51) (d3 := 52) (d4 := 53) (d5 := 54) (d6 := 12) (t := 35) (et := 23) (t6 := 29) (z := (vals .u64 (List.replicate 24 0) ++ #[.bool false])) (A1 := A1) (c1 := c1) (s := s) (o := o) (by kernel_rfl) (by kernel_rfl) (by kernel_rfl) (by kernel_rfl) (by kernel_rfl) (by kernel_rfl) (by kernel_rfl) (by kernel_rfl) (by kernel_rfl) (by kernel_rfl) (by kernel_rfl) (by kernel_rfl) (by kernel_rfl) (by kernel_rfl) (by kernel_rfl) (by kernel_rfl) (by kernel_rfl) Tryd.underlying35 u64Elem hal (by decide) mkS0 (mkS1 o) (by decide) (by rw [z3]; decide)
    (eval_of (((put_ne (by decide)).trans (put_ne (by decide))).trans (put_eq (by rw [h1]; decide)))) (hr.keep hb0 (Nat.le_refl _)) (eval_of ((put_ne (by decide)).trans (put_eq (by rw [z1]; decide)))) (fun E v0 v2 v4 A c y hkE how hby hsz => ?_)
  have hsz0 : y0.heap.size ≤ y.heap.size := hsz
  have hbz : RowKit.Below y0.heap.size y0 y := hb0.trans hby
  have hge : y0.heap.size ≤ gE y E := by
    cases E with
    | none => exact hsz0
    | some g => exact hkE.2
  have hbut : ∀ u, But (gE y E) y u → RowKit.Below y0.heap.size y0 u := fun u hu => hbz.trans (hu.below hge hsz0)
  have hap : ∀ q, A = some ⟨q, 0, none⟩ → gE y E ≠ q := fun q hq => by
    cases E with
    | none =>
      obtain ⟨b', off', hA', _, hlt, _⟩ := (Frs.of_own how).at_ (by decide)
      rw [hq] at hA'
      injection hA' with hA'
      injection hA' with hA' _ _
      subst hA'
      exact Ne.symm (Nat.ne_of_lt hlt)
    | some g => exact how.apart hkE.1 (by decide) q hq
  have hru : ∀ u, But (gE y E) y u → Rd u u.heap.size A 2 .u64 [s, o] := fun u hu => (Frs.of_own (how.but hap hu)).rd
  have hS2 : ∀ u v : World, But (gE y E) y u → RowKit.Below u.heap.size u v → But (gE y E) y v := fun u v h h' => h.then h'
  have hrf : But (gE y E) y y := But.of (RowKit.Below.refl _ _) _
  obtain ⟨b1, hb1⟩ : ∃ b1, b1 = (((((dnE 12 (((act.put (some 50) (.slice A1 1 c1)).put (some 52) (.int .u64 o)).put (some 55) (.agg (vals .u64 x ++ #[.bool b]))) E).put (some 49) v0).put (some 51) v2).put (some 53) v4).put (some 54) (.slice A 2 c)) := ⟨_, rfl⟩
  rw [← hb1]
  have fz : b1.tmps.size = 119 := by rw [hb1]; simp only [Act.size_put, dnE_size, h1]
  have fd : b1.defers = [] := by rw [hb1]; cases E <;> (simp only [dnE, put_defers]; exact hd)
  have f54 : b1.tmps[54]? = some (.slice A 2 c) := by rw [hb1]; exact put_eq (by simp only [Act.size_put, dnE_size, h1]; decide)
  have f55 : b1.tmps[55]? = some (.agg (vals .u64 x ++ #[.bool b])) := by
    rw [hb1, put_ne (by decide), put_ne (by decide), put_ne (by decide), put_ne (by decide)]
    cases E with
    | none => exact put_eq (by rw [z2]; decide)
    | some g => exact (put_ne (by decide)).trans (put_eq (by rw [z2]; decide))
  have f12 : ∀ g, E = some g → b1.tmps[12]? = some (.pointer (some ⟨g, 0, none⟩)) := fun g hE => by
    subst hE
    rw [hb1, put_ne (by decide), put_ne (by decide), put_ne (by decide), put_ne (by decide)]
    exact put_eq (by rw [z3]; decide)
  have fsl : ∀ p ∈ ([(1, .num .u64 m), (2, .num .u64 n), (3, .ptr 0 0), (7, .val (.bool true)), (8, .ptr 1 0), (9, .val (.int .i64 0))] : List (Nat × AV)), b1.tmps[p.1]? = some (p.2.den [g0, g1]) := fun p hp => by
    have h3 := h2 p hp
    rw [hb1]
    simp only [List.mem_cons, List.not_mem_nil, or_false] at hp
    cases E with
    | none => rcases hp with rfl | rfl | rfl | rfl | rfl | rfl <;> (dsimp only [dnE]; rw [put_ne (by decide), put_ne (by decide), put_ne (by decide), put_ne (by decide), put_ne (by decide), put_ne (by decide), put_ne (by decide)]; exact h3)
    | some g => rcases hp with rfl | rfl | rfl | rfl | rfl | rfl <;> (dsimp only [dnE]; rw [put_ne (by decide), put_ne (by decide), put_ne (by decide), put_ne (by decide), put_ne (by decide), put_ne (by decide), put_ne (by decide), put_ne (by decide)]; exact h3)
  clear hb1
  refine takeE hS2 (i := 7) (oi := (opAt ((rg (rsN 5 (bodyOf Tryd.f9))).toArray) 7)) E (by kernel_rfl) hsel (by cases E <;> kernel_rfl) (by cases E <;> kernel_rfl) (post_panic _) hrf (st_call (v := .tuple #[.agg (ptA (mulO K2 bb (num [s, o]).toNat (ptv K2 x b))), .int .i64 (if onB K2 bb (ptv K2 x b) = true then (0 : Int) else 120)]) (by kernel_rfl) (p := .tmp 54) (q := .tmp 55) (F := 22) (T := #[35, 29]) (by kernel_rfl) (eval_of f54) (eval_of f55) (enter_of Tryd.func22 rfl (by decide)) (fun u hu => mul_c x hx b A 2 c [s, o] u.heap.size u (hG0.keep (hbut u hu)) (hru u hu) hws (Nat.le_refl _) (by omega))) ?_
  rw [show (opAt ((rg (rsN 5 (bodyOf Tryd.f9))).toArray) 7).dst = some 56 from (by kernel_rfl)]
  refine takeE hS2 (i := 8) (oi := (opAt ((rg (rsN 5 (bodyOf Tryd.f9))).toArray) 8)) E (by kernel_rfl) hsel (by cases E <;> kernel_rfl) (by cases E <;> kernel_rfl) (post_panic _) hrf (st_move (v := .tuple #[.agg (ptA (mulO K2 bb (num [s, o]).toNat (ptv K2 x b))), .int .i64 (if onB K2 bb (ptv K2 x b) = true then (0 : Int) else 120)]) (by kernel_rfl) (p := .tmp 56) (by kernel_rfl) (eval_of (put_eq (by rw [fz]; decide)))) ?_
  rw [show (opAt ((rg (rsN 5 (bodyOf Tryd.f9))).toArray) 8).dst = some 48 from (by kernel_rfl)]
  refine takeE hS2 (i := 9) (oi := (opAt ((rg (rsN 5 (bodyOf Tryd.f9))).toArray) 9)) E (by kernel_rfl) hsel (by cases E <;> kernel_rfl) (by cases E <;> kernel_rfl) (post_panic _) hrf (st_extract (by kernel_rfl) (p := .tmp 48) (i := 0) (v := .agg (ptA (mulO K2 bb (num [s, o]).toNat (ptv K2 x b)))) (by kernel_rfl) (eval_of (put_eq (by simp only [Act.size_put, fz]; decide))) rfl) ?_
  rw [show (opAt ((rg (rsN 5 (bodyOf Tryd.f9))).toArray) 9).dst = some 57 from (by kernel_rfl)]
  refine takeE hS2 (i := 10) (oi := (opAt ((rg (rsN 5 (bodyOf Tryd.f9))).toArray) 10)) E (by kernel_rfl) hsel (by cases E <;> kernel_rfl) (by cases E <;> kernel_rfl) (post_panic _) hrf (st_extract (by kernel_rfl) (p := .tmp 48) (i := 1) (v := .int .i64 (if onB K2 bb (ptv K2 x b) = true then (0 : Int) else 120)) (by kernel_rfl) (eval_of ((put_ne (by decide)).trans (put_eq (by simp only [Act.size_put, fz]; decide)))) rfl) ?_
  rw [show (opAt ((rg (rsN 5 (bodyOf Tryd.f9))).toArray) 10).dst = some 58 from (by kernel_rfl)]
  obtain ⟨b2, hb2⟩ : ∃ b2, b2 = ((((b1.put (some 56) (.tuple #[.agg (ptA (mulO K2 bb (num [s, o]).toNat (ptv K2 x b))), .int .i64 (if onB K2 bb (ptv K2 x b) = true then (0 : Int) else 120)])).put (some 48) (.tuple #[.agg (ptA (mulO K2 bb (num [s, o]).toNat (ptv K2 x b))), .int .i64 (if onB K2 bb (ptv K2 x b) = true then (0 : Int) else 120)])).put (some 57) (.agg (ptA (mulO K2 bb (num [s, o]).toNat (ptv K2 x b))))).put (some 58) (.int .i64 (if onB K2 bb (ptv K2 x b) = true then (0 : Int) else 120))) := ⟨_, rfl⟩
  rw [← hb2]
  have gz : b2.tmps.size = 119 := by rw [hb2]; simp only [Act.size_put, fz]
  have gd : b2.defers = [] := by rw [hb2]; simp only [put_defers]; exact fd
  have g58 : b2.tmps[58]? = some (.int .i64 (if onB K2 bb (ptv K2 x b) = true then (0 : Int) else 120)) := by rw [hb2]; exact put_eq (by simp only [Act.size_put, fz]; decide)
  have g57 : b2.tmps[57]? = some (.agg (ptA (mulO K2 bb (num [s, o]).toNat (ptv K2 x b)))) := by rw [hb2]; exact (put_ne (by decide)).trans (put_eq (by simp only [Act.size_put, fz]; decide))
  have g12 : ∀ g, E = some g → b2.tmps[12]? = some (.pointer (some ⟨g, 0, none⟩)) := fun g hE => by
    rw [hb2, put_ne (by decide), put_ne (by decide), put_ne (by decide), put_ne (by decide)]
    exact f12 g hE
  have gsl : ∀ p ∈ ([(1, .num .u64 m), (2, .num .u64 n), (3, .ptr 0 0), (7, .val (.bool true)), (8, .ptr 1 0), (9, .val (.int .i64 0))] : List (Nat × AV)), b2.tmps[p.1]? = some (p.2.den [g0, g1]) := fun p hp => by
    have h3 := fsl p hp
    rw [hb2]
    simp only [List.mem_cons, List.not_mem_nil, or_false] at hp
    rcases hp with rfl | rfl | rfl | rfl | rfl | rfl <;> (dsimp only; rw [put_ne (by decide), put_ne (by decide), put_ne (by decide), put_ne (by decide)]; exact h3)
  clear hb2 fsl f12 f54 f55 fz fd
  have hzz : (vals .u64 (List.replicate 24 0) ++ #[Value.bool false]).size = 25 := (by kernel_rfl)
  have fsl6 : ∀ (d : Nat) (v : Value) (b3 : Act), (∀ k ∈ [1, 2, 3, 7, 8, 9], d ≠ k) → (∀ p ∈ ([(1, .num .u64 m), (2, .num .u64 n), (3, .ptr 0 0), (7, .val (.bool true)), (8, .ptr 1 0), (9, .val (.int .i64 0))] : List (Nat × AV)), b3.tmps[p.1]? = some (p.2.den [g0, g1])) → ∀ p ∈ ([(1, .num .u64 m), (2, .num .u64 n), (3, .ptr 0 0), (7, .val (.bool true)), (8, .ptr 1 0), (9, .val (.int .i64 0))] : List (Nat × AV)), (b3.put (some d) v).tmps[p.1]? = some (p.2.den [g0, g1]) := fun d v b3 hk k2 p hp => by
    rw [put_ne (hk p.1 (by simp only [List.mem_cons, List.not_mem_nil, or_false] at hp; rcases hp with rfl | rfl | rfl | rfl | rfl | rfl <;> simp))]
    exact k2 p hp
  cases E with
  | some g =>
    refine then_store (f := 1) (i := 12) (o := (opAt ((rg (rsN 5 (bodyOf Tryd.f9))).toArray) 12)) (by kernel_rfl) (by kernel_rfl) (by kernel_rfl) (p := .tmp 12) (q := .tmp 57) (ty := 29) (by kernel_rfl) (by kernel_rfl) (g := g) (eval_of (g12 g rfl)) (eval_of g57) hkE.1 hzz (fun w' hh hw' => ⟨hw', ?_⟩)
    refine end_take (i := 13) (oi := (opAt ((rg (rsN 5 (bodyOf Tryd.f9))).toArray) 13)) hS2 (by kernel_rfl) hsel (by kernel_rfl) (by kernel_rfl) (by kernel_rfl) (post_panic _) hw' (st_assign (v := .int .i64 (if onB K2 bb (ptv K2 x b) = true then (0 : Int) else 120)) (by kernel_rfl) (p := .tmp 58) (by kernel_rfl) (eval_of g58)) (fun w2 hw2 => ?_)
    have hw3 : But g y w2 := hw'.then hw2
    rw [show (opAt ((rg (rsN 5 (bodyOf Tryd.f9))).toArray) 13).dst = some 13 from (by kernel_rfl)]
    exact fin8 _ g w2 (by rw [Act.size_put, gz]) (fsl6 13 _ _ (by decide) gsl) ((put_ne (by decide)).trans (g12 g rfl)) (put_eq (by rw [gz]; decide)) (put_defers.trans gd) (hbut w2 hw3) (Nat.le_trans hsz0 hw3.size) (hh.keep hw2)
  | none =>
    refine wpAnyU_alloc (f := 2) (n := 11) (by kernel_rfl) hal (fun y' hy => ?_)
    have hy2 : But y.heap.size y (y'.alloc (.cells (vals .u64 (List.replicate 24 0) ++ #[.bool false]) 29)) := (But.of hy _).then ((RowKit.Below.refl _ _).alloc (Nat.le_refl _) _)
    refine ⟨hy2, ?_⟩
    have hsy : y.heap.size ≤ y'.heap.size := hy.size
    have hsy1 : y.heap.size ≤ (y'.alloc (.cells (vals .u64 (List.replicate 24 0) ++ #[.bool false]) 29)).heap.size := hy2.size
    refine then_store (f := 1) (i := 12) (o := (opAt ((rg (rsN 5 (bodyOf Tryd.f9))).toArray) 12)) (by kernel_rfl) (by kernel_rfl) (by kernel_rfl) (p := .tmp 12) (q := .tmp 57) (ty := 29) (by kernel_rfl) (by kernel_rfl) (g := y'.heap.size) (eval_of (put_eq (by rw [gz]; decide))) (eval_of ((put_ne (by decide)).trans g57)) (Has.new y' 29 (vals .u64 (List.replicate 24 0) ++ #[.bool false])) hzz (fun w' hh hw' => ?_)
    have hyw : But y.heap.size y w' := ⟨hw'.os.trans hy2.os, hw'.tape.trans hy2.tape, hw'.output.trans hy2.output, Nat.le_trans hsy1 hw'.size, fun q hq hne => (hw'.block q (Nat.lt_of_lt_of_le hq hsy1) (Nat.ne_of_lt (Nat.lt_of_lt_of_le hq hsy))).trans (hy2.block q hq hne)⟩
    refine ⟨hyw, ?_⟩
    refine end_take (i := 13) (oi := (opAt ((rg (rsN 5 (bodyOf Tryd.f9))).toArray) 13)) hS2 (by kernel_rfl) hsel (by kernel_rfl) (by kernel_rfl) (by kernel_rfl) (post_panic _) hyw (st_assign (v := .int .i64 (if onB K2 bb (ptv K2 x b) = true then (0 : Int) else 120)) (by kernel_rfl) (p := .tmp 58) (by kernel_rfl) (eval_of ((put_ne (by decide)).trans g58))) (fun w2 hw2 => ?_)
    have hw3 : But y.heap.size y w2 := hyw.then hw2
    rw [show (opAt ((rg (rsN 5 (bodyOf Tryd.f9))).toArray) 13).dst = some 13 from (by kernel_rfl)]
    exact fin8 _ y'.heap.size w2 (by rw [Act.size_put, Act.size_put, gz]) (fsl6 13 _ _ (by decide) (fsl6 12 _ _ (by decide) gsl)) ((put_ne (by decide)).trans (put_eq (by rw [gz]; decide))) (put_eq (by rw [Act.size_put, gz]; decide)) (put_defers.trans (put_defers.trans gd)) (hbut w2 hw3) (Nat.le_trans hsz0 hw3.size) (hh.keep hw2)
set_option maxRecDepth 100000 in
set_option maxHeartbeats 4000000 in
theorem steps_on (x : List Int) (hx : Nm 24 x) (b : Bool) (m n : Int) (hm : 0 ≤ m ∧ m < 18446744073709551616) (hn : 0 ≤ n ∧ n < 18446744073709551616) (w : World) (hG : GlobD w) (e : onB K2 bb (ptv K2 x b) = true) : Calls Tryd.prog 9 #[.agg (vals .u64 x ++ #[.bool b]), .int .u64 m, .int .u64 n] w fun r w' => r = .returned (.bool true) ∧ RowKit.Below w.heap.size w w' := by
  obtain ⟨s, o, hs, ho, hwso, hnso⟩ := sum_two (e := m) (f := 1) hm.1 (by omega) (by decide) (by decide)
  have hwa := (one_word hm.1 (by omega)).1
  have hwb : Words [1] := (one_word (x := 1) (by decide) (by decide)).1
  have P1 : Keep (∀ w' g g', Has w' g 23 (vals .u64 [m]) → Has w' g' 23 (vals .u64 [1]) → Calls Tryd.prog 27 #[.slice (some ⟨g, 0, none⟩) 1 1, .slice (some ⟨g', 0, none⟩) 1 1] w' fun r w'' => ∃ A'' c'', r = .returned (.tuple #[.slice A'' 1 c'', .int .u64 o]) ∧ Frs w'' w'.heap.size A'' 1 .u64 [s] ∧ RowKit.Below w'.heap.size w' w'') := ⟨fun w' g g' h h' => add_one hwa hwb hs ho h h'⟩
  obtain ⟨S, hS⟩ : ∃ S, w.heap.size = S := ⟨_, rfl⟩
  have HD : Keep (∀ x, RowKit.Below S w x → GlobD x) := keepB hS hG (fun h k => h.keep k)
  obtain ⟨cs, hcs⟩ : ∃ cs, cs = (vals .u64 x ++ #[.bool b]) := ⟨_, rfl⟩
  have hcz : Cz 25 cs := by rw [hcs]; exact ⟨by simp [vals_size, hx.len], by simp [vals, Value.oneCell']⟩
  have PM : Keep (∀ (u : World) (g : Nat), GlobD u → Has u g 23 (vals .u64 [m]) → Calls Tryd.prog 22 #[.slice (some ⟨g, 0, none⟩) 1 1, .agg cs] u fun r u' => r = .returned (.tuple #[.agg (ptA (mulO K2 bb (num [m]).toNat (ptv K2 x b))), .int .i64 0]) ∧ RowKit.Below u.heap.size u u') := ⟨fun u g hu hg => by
    have h := mul_c x hx b (some ⟨g, 0, none⟩) 1 1 [m] u.heap.size u hu (Rd.of_has hg hg.lt rfl (by simp)) hwa (Nat.le_refl _) (by omega)
    rwa [if_pos e, ← hcs] at h⟩
  have PO : Keep (∀ u : World, GlobD u → Calls Tryd.prog 20 #[.agg cs] u fun r u' => r = .returned (.bool true) ∧ RowKit.Below u.heap.size u u') := ⟨fun u hu => by
    have h := (S13O.lOn [.p x b] ⟨hx, trivial⟩ trivial).2.2 u hu [Value.agg cs] ⟨congrArg Value.agg hcs, trivial⟩
    rwa [show (o1 (fun x b => AV.bl (onB K2 bb (ptv K2 x b))) [.p x b]).den [] = .bool true from congrArg Value.bool e] at h⟩
  obtain ⟨w0, H0, hw⟩ := kn1 (w := w) hS cs 29
  have KR : Keep _ := ⟨(⟨hx, hm, hn, e, hcs⟩ : Nm 24 x ∧ (0 ≤ m ∧ m < 18446744073709551616) ∧ (0 ≤ n ∧ n < 18446744073709551616) ∧ onB K2 bb (ptv K2 x b) = true ∧ cs = (vals .u64 x ++ #[.bool b]))⟩
  have KN : Keep _ := ⟨hnso⟩
  have KW : Keep _ := ⟨hwso⟩
  rw [← hcs]
  clear hs ho hwso hnso hwa hwb hG hm hn hx e hcs
  refine calls_opq5 (fun act y => ∃ (A1 : Option Addr) (c1 g1 : Nat), GlobD y ∧ act.tmps.size = 119 ∧ (∀ p ∈ ([(1, .num .u64 m), (2, .num .u64 n), (3, .ptr 0 0), (7, .val (.bool true)), (8, .ptr 1 0), (9, .val (.int .i64 0))] : List (Nat × AV)), act.tmps[p.1]? = some (p.2.den [S, g1])) ∧ act.tmps[10]? = some (.slice A1 1 c1) ∧ act.tmps[11]? = some (.int .u64 o) ∧ act.defers = [] ∧ Has y S 29 cs ∧ Has y g1 29 (ptA (mulO K2 bb (num [m]).toNat (ptv K2 x b))) ∧ Rd y y.heap.size A1 1 .u64 [s] ∧ RowKit.Below w.heap.size w y ∧ w.heap.size ≤ y.heap.size) Tryd.func9 rfl (fun act y h => ?_) (fun R' hR' => ?_)
  · obtain ⟨A1, c1, g1, k0, k1, k2, k3, k4, k5, k6, k7, k8, k9, k10⟩ := h
    rw [KR.out.2.2.2.2] at k6
    exact rest6 KR.out.1 KR.out.2.1 KR.out.2.2.1 KW.out KN.out KR.out.2.2.2.1 k0 k1 k2 k3 k4 k5 k6 k7 k8 (fun x' hb => ⟨rfl, k9.trans (hb.mono k10)⟩)
  simp only [Tryd.ntmps9, List.size_toArray, List.length_cons, List.length_nil, Nat.reduceAdd, Nat.reduceSub, Array.replicate_succ, Array.replicate_zero, List.push_toArray, List.append_toArray, List.nil_append, List.cons_append]
  go_wp2_with (first
    | (go_at_call 27
       refine (P1.out _ w4.heap.size (w4.heap.size + 1) ((Has.new w4 _ _).alloc _) (Has.new' _ (by simp) _ _)).mono ?_
       rintro r w5 ⟨As, cS, rfl, hF5, hq⟩
       have hbe := (((RowKit.Below.refl w4.heap.size w4).alloc (Nat.le_refl _) (.cells (vals .u64 [m]) 23)).alloc (by simp) (.cells (vals .u64 [1]) 23)).trans (hq.mono (by simp; omega))
       have H5 := H4.keep hbe
       clear hq hbe H4)
    | (go_at_call 20
       have hq3 := H3
       refine H3.call (PO.out w3 (HD.out _ H3.bel)) fun w4 H4 => ?_
       clear H3 hq3)
    | (refine H3.lrow 0 rfl rfl rfl rfl ?_)
    | (refine H2.nv rfl rfl rfl rfl rfl (by kernel_rfl) fun w3 H3 => ?_
       clear H2)
    | (go_at_call 22
       have hq1 := H1
       refine (H1.keep ((RowKit.Below.refl w1.heap.size w1).alloc (Nat.le_refl _) (.cells (vals .u64 [m]) 23))).call (PM.out _ w1.heap.size (HD.out _ (H1.keep ((RowKit.Below.refl w1.heap.size w1).alloc (Nat.le_refl _) (.cells (vals .u64 [m]) 23))).bel) (Has.new w1 23 (vals .u64 [m]))) fun w2 H2 => ?_
       clear H1 hq1)
    | (refine (H1.keep ((RowKit.Below.refl w1.heap.size w1).alloc (Nat.le_refl _) (.cells (vals .u64 [m]) 23))).lrow 0 rfl rfl rfl rfl ?_)
    | (go_at_call 11
       have hq0 := H0
       refine H0.call (awake_c w0 (HD.out _ H0.bel)) fun w1 H1 => ?_
       clear H0 hq0)
    | (refine wpl_at hw ?_
       clear hw))
  refine hR' _ _ ⟨As, cS, w2.heap.size, HD.out _ H5.bel, rfl, fun p hp => ?_, rfl, rfl, rfl, H5.at 0 rfl, H5.at 1 rfl, hF5.rd, hS ▸ H5.bel, hS ▸ H5.sz⟩
  simp only [List.mem_cons, List.mem_nil_iff, or_false] at hp
  rcases hp with rfl | rfl | rfl | rfl | rfl | rfl <;> rfl
theorem steps (x : List Int) (hx : Nm 24 x) (b : Bool) (m n : Int) (hm : 0 ≤ m ∧ m < 18446744073709551616) (hn : 0 ≤ n ∧ n < 18446744073709551616) (w : World) (hG : GlobD w) : Calls Tryd.prog 9 #[.agg (vals .u64 x ++ #[.bool b]), .int .u64 m, .int .u64 n] w fun r w' => r = .returned (.bool true) ∧ RowKit.Below w.heap.size w w' := by
  cases e : onB K2 bb (ptv K2 x b)
  · exact steps_off x hx b m n hm hn w hG e
  · exact steps_on x hx b m n hm hn w hG e
end Go.Proofs.YtajiinecicghkaaDoor.S13T
