/-
  Own text. Sums of multiples of the base: the head by tactics, the rest by the reckoner.
-/
import Derived.Test.YtajiinecicghkaaDoorS13L
import Derived.Test.YtajiinecicghkaaDoorSxR
import Derived.Test.YtajiinecicghkaaDoorMRegT
namespace Go.Proofs.YtajiinecicghkaaDoor.S13B
set_option linter.unusedVariables false
set_option linter.unusedSimpArgs false
open Go Go.RowKit Go.Proofs.YtajiinecicghkaaDoor.Reg Go.Proofs.YtajiinecicghkaaDoor.Base Go.Proofs.YtajiinecicghkaaDoor.Limb Go.Proofs.YtajiinecicghkaaDoor.Sx Go.Proofs.YtajiinecicghkaaDoor.Fp Go.Proofs.YtajiinecicghkaaDoor.Fp2 Go.Proofs.YtajiinecicghkaaDoor.Ec Go.Proofs.YtajiinecicghkaaDoor.Pts Go.Proofs.YtajiinecicghkaaDoor.G2K Go.Proofs.YtajiinecicghkaaDoor.S13R Go.Proofs.YtajiinecicghkaaDoor.S13L Go.Proofs.YtajiinecicghkaaDoor.SxR

/-- A point's cells. -/
def ptA (A : Pt Fp2.G) : Array Value := vals .u64 (ptW K2 A) ++ #[.bool (ptB A)]
instance (A : Pt Fp2.G) : Cz 25 (ptA A) := ⟨by simp [ptA, vals_size, (nm_ptW K2 A).len]; rfl, by simp [ptA, vals, Value.oneCell']⟩
theorem ptA_den (A : Pt Fp2.G) : (den [.nums 24 (ptW K2 (A)), .nm (.bl (ptB (A)))]).toArray = ptA A := by simp [den, Sg.den, NV.den, ptA, vals]
instance : Agg Tryd.prog 29 25 := .of Tryd.underlying29 (by kernel_rfl) rfl
def sl0 : List AV := mkSl 66 [(7, .val (.bool true)), (8, .ptr 0 0), (9, .ptr 1 0), (10, .ptr 2 0), (13, .ptr 3 0), (14, .val (.int .i64 0))]
def bs0 (a b c s o : Int) : List Bk := [(29, [.nums 24 (ptW K2 (PtK a false)), .nm (.bl (ptB (PtK a false)))]), (29, [.nums 24 (ptW K2 (PtK b false)), .nm (.bl (ptB (PtK b false)))]), (29, [.nums 24 (ptW K2 (PtK c true)), .nm (.bl (ptB (PtK c true)))]), (29, [.nums 24 (ptW K2 (mulO K2 bb (num [s, o]).toNat (ptv K2 BL false))), .nm (.bl (ptB (mulO K2 bb (num [s, o]).toNat (ptv K2 BL false))))])]
/-- A multiple of the base. -/
abbrev B_ : Pt Fp2.G := ptv K2 BL false
theorem onBase : OnP K2.F bb B_ := (onB_iff K2).1 aw1
theorem PtK_f (k : Int) : PtK k false = mulP K2.F (num [k]).toNat B_ := (if_neg (by decide)).trans (mulO_on K2 onBase _)
theorem PtK_t (k : Int) : EqP K2.F (PtK k true) (negP K2.F (mulP K2.F (num [k]).toNat B_)) := by
  rw [PtK, if_pos rfl]
  have h := neg_v K2 (mulO K2 bb (num [k]).toNat B_)
  rwa [mulO_on K2 onBase] at h
theorem PtK_on (k : Int) (t : Bool) : OnP K2.F bb (PtK k t) := by
  cases t
  · rw [PtK_f]; exact mul_on K2 onBase _
  · exact onP_eq K2.F (eqP_symm K2.F (PtK_t k)) (onP_neg K2.F (mul_on K2 onBase _))
theorem brk (A B C : Pt Fp2.G) (a : OnP K2.F bb A) (b : OnP K2.F bb B) (c : OnP K2.F bb C) : Sm K2 (addP K2.F (ptv K2 (ptW K2 (addP K2.F (ptv K2 (ptW K2 (A)) (ptB (A))) (ptv K2 (ptW K2 (B)) (ptB (B))))) (ptB (addP K2.F (ptv K2 (ptW K2 (A)) (ptB (A))) (ptv K2 (ptW K2 (B)) (ptB (B)))))) (ptv K2 (ptW K2 (C)) (ptB (C)))) (addP K2.F (ptv K2 (ptW K2 (A)) (ptB (A))) (ptv K2 (ptW K2 (addP K2.F (ptv K2 (ptW K2 (B)) (ptB (B))) (ptv K2 (ptW K2 (C)) (ptB (C))))) (ptB (addP K2.F (ptv K2 (ptW K2 (B)) (ptB (B))) (ptv K2 (ptW K2 (C)) (ptB (C))))))) :=
  sm K2 (eqP_trans K2.F (add_v K2 (add_v K2 (eqP_refl K2.F A) (eqP_refl K2.F B)) (eqP_refl K2.F C)) (eqP_trans K2.F (brackets_ K2 four_ne a b c) (eqP_symm K2.F (add_v K2 (eqP_refl K2.F A) (add_v K2 (eqP_refl K2.F B) (eqP_refl K2.F C))))))
set_option maxRecDepth 100000 in
theorem rest_ok {a b c s o : Int} (ha : 0 ≤ a ∧ a < 18446744073709551616) (hb : 0 ≤ b ∧ b < 18446744073709551616) (hso : num [s, o] = a + b) {gs : List Nat} (hgl : gs.length = 4) {act : Act} {x : World} (hG0 : GlobD x) (h1 : act.tmps.size = 66)
    (h2 : ∀ p ∈ ([(7, .val (.bool true)), (8, .ptr 0 0), (9, .ptr 1 0), (10, .ptr 2 0), (13, .ptr 3 0), (14, .val (.int .i64 0))] : List (Nat × AV)), act.tmps[p.1]? = some (p.2.den gs)) (hd : act.defers = []) (q1 : Has x (gs.getD 0 0) 29 (ptA (PtK a false))) (q2 : Has x (gs.getD 1 0) 29 (ptA (PtK b false))) (q3 : Has x (gs.getD 2 0) 29 (ptA (PtK c true))) (q4 : Has x (gs.getD 3 0) 29 (ptA (mulO K2 bb (num [s, o]).toNat (ptv K2 BL false)))) {Q : Ending → World → Prop} (hQ : ∀ x', RowKit.Below x.heap.size x x' → Q (.returned (.bool true)) x') : (rsN 7 (bodyOf Tryd.f8)).wp Tryd.prog (bodyPost Tryd.prog Tryd.f8 Q) act x := by
  have k1 := brk (PtK a false) (PtK b false) (PtK c true) (PtK_on a false) (PtK_on b false) (PtK_on c true)
  have k2 : Sm K2 (addP K2.F (ptv K2 (ptW K2 (PtK a false)) (ptB (PtK a false))) (ptv K2 (ptW K2 (PtK b false)) (ptB (PtK b false)))) (mulO K2 bb (num [s, o]).toNat (ptv K2 BL false)) := by
    refine sm K2 (eqP_trans K2.F (add_v K2 (eqP_refl K2.F _) (eqP_refl K2.F _)) ?_)
    rw [PtK_f, PtK_f, mulO_on K2 onBase]
    have h := mul_add K2 four_ne onBase (num [a]).toNat (num [b]).toNat
    rwa [show (num [a]).toNat + (num [b]).toNat = (num [s, o]).toNat by rw [hso, (one_word ha.1 (by omega)).2, (one_word hb.1 (by omega)).2]; omega] at h
  have he : evalR Tryd.prog XA 4 9 (rsN 7 (bodyOf Tryd.f8)) Tryd.f8.results.toList sl0 (bs0 a b c s o) [true, true] = some ([.val (.bool true)], [qb true (ptW K2 (addP K2.F (ptv K2 (ptW K2 (addP K2.F (ptv K2 (ptW K2 (PtK a false)) (ptB (PtK a false))) (ptv K2 (ptW K2 (PtK b false)) (ptB (PtK b false))))) (ptB (addP K2.F (ptv K2 (ptW K2 (PtK a false)) (ptB (PtK a false))) (ptv K2 (ptW K2 (PtK b false)) (ptB (PtK b false)))))) (ptv K2 (ptW K2 (PtK c true)) (ptB (PtK c true)))) = ptW K2 (addP K2.F (ptv K2 (ptW K2 (PtK a false)) (ptB (PtK a false))) (ptv K2 (ptW K2 (addP K2.F (ptv K2 (ptW K2 (PtK b false)) (ptB (PtK b false))) (ptv K2 (ptW K2 (PtK c true)) (ptB (PtK c true))))) (ptB (addP K2.F (ptv K2 (ptW K2 (PtK b false)) (ptB (PtK b false))) (ptv K2 (ptW K2 (PtK c true)) (ptB (PtK c true))))))) ∧ ptB (addP K2.F (ptv K2 (ptW K2 (addP K2.F (ptv K2 (ptW K2 (PtK a false)) (ptB (PtK a false))) (ptv K2 (ptW K2 (PtK b false)) (ptB (PtK b false))))) (ptB (addP K2.F (ptv K2 (ptW K2 (PtK a false)) (ptB (PtK a false))) (ptv K2 (ptW K2 (PtK b false)) (ptB (PtK b false)))))) (ptv K2 (ptW K2 (PtK c true)) (ptB (PtK c true)))) = ptB (addP K2.F (ptv K2 (ptW K2 (PtK a false)) (ptB (PtK a false))) (ptv K2 (ptW K2 (addP K2.F (ptv K2 (ptW K2 (PtK b false)) (ptB (PtK b false))) (ptv K2 (ptW K2 (PtK c true)) (ptB (PtK c true))))) (ptB (addP K2.F (ptv K2 (ptW K2 (PtK b false)) (ptB (PtK b false))) (ptv K2 (ptW K2 (PtK c true)) (ptB (PtK c true)))))))), qb true (ptW K2 (addP K2.F (ptv K2 (ptW K2 (PtK a false)) (ptB (PtK a false))) (ptv K2 (ptW K2 (PtK b false)) (ptB (PtK b false)))) = ptW K2 (mulO K2 bb (num [s, o]).toNat (ptv K2 BL false)) ∧ ptB (addP K2.F (ptv K2 (ptW K2 (PtK a false)) (ptB (PtK a false))) (ptv K2 (ptW K2 (PtK b false)) (ptB (PtK b false)))) = ptB (mulO K2 bb (num [s, o]).toNat (ptv K2 BL false)))]) := by kernel_rfl
  rw [← hgl] at he
  refine tail_ok (gs := gs) XA_ok.toCxB rfl (fun u hu => hG0.keep hu) he (hp k1 (hp k2 trivial)) (mkSl_ok h1 h2) (mkSl_sok fun p hp => ?_) (Nat.le_refl _) (wd_of (by rw [hgl]; rfl) fun k t r hk => ?_) hd (fun v hv x' hb gs' => ?_)
  · simp only [List.mem_cons, List.not_mem_nil, or_false] at hp
    rcases hp with rfl | rfl | rfl | rfl | rfl | rfl
    · trivial
    all_goals first | trivial | (show _ < gs.length; omega)
  · match k, hk with
    | 0, hk => obtain ⟨rfl, rfl⟩ : 29 = t ∧ [.nums 24 (ptW K2 (PtK a false)), .nm (.bl (ptB (PtK a false)))] = r := by simpa [bs0] using hk
               exact ⟨by rw [ptA_den]; exact q1, nm_ptW K2 _, trivial, trivial⟩
    | 1, hk => obtain ⟨rfl, rfl⟩ : 29 = t ∧ [.nums 24 (ptW K2 (PtK b false)), .nm (.bl (ptB (PtK b false)))] = r := by simpa [bs0] using hk
               exact ⟨by rw [ptA_den]; exact q2, nm_ptW K2 _, trivial, trivial⟩
    | 2, hk => obtain ⟨rfl, rfl⟩ : 29 = t ∧ [.nums 24 (ptW K2 (PtK c true)), .nm (.bl (ptB (PtK c true)))] = r := by simpa [bs0] using hk
               exact ⟨by rw [ptA_den]; exact q3, nm_ptW K2 _, trivial, trivial⟩
    | 3, hk => obtain ⟨rfl, rfl⟩ : 29 = t ∧ [.nums 24 (ptW K2 (mulO K2 bb (num [s, o]).toNat (ptv K2 BL false))), .nm (.bl (ptB (mulO K2 bb (num [s, o]).toNat (ptv K2 BL false))))] = r := by simpa [bs0] using hk
               exact ⟨by rw [ptA_den]; exact q4, nm_ptW K2 _, trivial, trivial⟩
    | k + 4, hk => simp [bs0] at hk
  · have : v = .val (.bool true) := by simpa using hv
    subst this
    exact hQ x' hb
theorem pointA (k : Int) (hk : 0 ≤ k ∧ k < 18446744073709551616) (t : Bool) (w : World) (hG : GlobD w) : Calls Tryd.prog 26 #[.int .u64 k, .bool t] w fun e w' => e = .returned (.agg (ptA (PtK k t))) ∧ RowKit.Below w.heap.size w w' := point_c k hk t w hG
theorem awake_c (w : World) (hG : GlobD w) : Calls Tryd.prog 11 #[] w fun e w' => e = .returned (.bool true) ∧ RowKit.Below w.heap.size w w' := (awake [] trivial trivial).2.2 w hG [] trivial
theorem base_c (w : World) (hG : GlobD w) : Calls Tryd.prog 12 #[] w fun e w' => e = .returned (.agg (vals .u64 BL ++ #[.bool false])) ∧ RowKit.Below w.heap.size w w' := by
  have h := (S13O.lBase [] trivial trivial).2.2 w hG [] trivial
  rwa [show (o0 BP []).den [] = .agg (vals .u64 BL ++ #[.bool false]) from p_den] at h
theorem mulA_den (m : Nat) (x : List Int) (b : Bool) : (mulA m x b).den [] = .tuple #[.agg (ptA (mulO K2 bb m (ptv K2 x b))), .int .i64 (if onB K2 bb (ptv K2 x b) = true then 0 else 120)] := by
  simp [mulA, AV.den, TV.den, den, Sg.den, NV.den, ptA, vals]
theorem mul_c (x : List Int) (hx : Nm 24 x) (b : Bool) (A : Option Addr) (n c : Nat) (l : List Int) (B : Nat) (w : World) (hG : GlobD w) (hr : Rd w B A n .u64 l) (hw : Words l) (hB : B ≤ w.heap.size) (hn : n ≤ 10000) : Calls Tryd.prog 22 #[.slice A n c, .agg (vals .u64 x ++ #[.bool b])] w fun e w' => e = .returned (.tuple #[.agg (ptA (mulO K2 bb (num l).toNat (ptv K2 x b))), .int .i64 (if onB K2 bb (ptv K2 x b) = true then 0 else 120)]) ∧ RowKit.Below w.heap.size w w' := by
  have h := (S13O.lMul [.sl n l, .p x b] ⟨⟨hn, hr.len, hw⟩, hx, trivial⟩ trivial).2.2 w hG [Value.slice A n c, Value.agg (vals .u64 x ++ #[Value.bool b])] ⟨⟨A, c, rfl, B, hB, hr⟩, rfl, trivial⟩
  rwa [show (oM mulA [.sl n l, .p x b]).den [] = _ from mulA_den _ _ _] at h
theorem mul_b (A : Option Addr) (n c : Nat) (l : List Int) (B : Nat) (w : World) (hG : GlobD w) (hr : Rd w B A n .u64 l) (hw : Words l) (hB : B ≤ w.heap.size) (hn : n ≤ 10000) : Calls Tryd.prog 22 #[.slice A n c, .agg (vals .u64 BL ++ #[.bool false])] w fun e w' => e = .returned (.tuple #[.agg (ptA (mulO K2 bb (num l).toNat B_)), .int .i64 0]) ∧ RowKit.Below w.heap.size w w' := by
  have h := mul_c BL nm_BL false A n c l B w hG hr hw hB hn
  rwa [if_pos aw1] at h
set_option maxRecDepth 100000 in
set_option maxHeartbeats 4000000 in
theorem brackets (a b c : Int) (ha : 0 ≤ a ∧ a < 18446744073709551616) (hb : 0 ≤ b ∧ b < 18446744073709551616) (hc : 0 ≤ c ∧ c < 18446744073709551616) (w : World) (hG : GlobD w) : Calls Tryd.prog 8 #[.int .u64 a, .int .u64 b, .int .u64 c] w fun r w' => r = .returned (.bool true) ∧ RowKit.Below w.heap.size w w' := by
  obtain ⟨s, o, hs, ho, hwso, hnso⟩ := sum_two ha.1 (by omega) hb.1 (by omega)
  have hwa := (one_word ha.1 (by omega)).1
  have hwb := (one_word hb.1 (by omega)).1
  have P1 : Keep (∀ w' g g', Has w' g 23 (vals .u64 [a]) → Has w' g' 23 (vals .u64 [b]) → Calls Tryd.prog 27 #[.slice (some ⟨g, 0, none⟩) 1 1, .slice (some ⟨g', 0, none⟩) 1 1] w' fun r w'' => ∃ A'' c'', r = .returned (.tuple #[.slice A'' 1 c'', .int .u64 o]) ∧ Frs w'' w'.heap.size A'' 1 .u64 [s] ∧ RowKit.Below w'.heap.size w' w'') := ⟨fun w' g g' h h' => add_one hwa hwb hs ho h h'⟩
  obtain ⟨S, hS⟩ : ∃ S, w.heap.size = S := ⟨_, rfl⟩
  have HD : Keep (∀ x, RowKit.Below S w x → GlobD x) := keepB hS hG (fun h k => h.keep k)
  have H0 := Kn.nil hS
  have KR : Keep _ := ⟨(⟨ha, hb, hc⟩ : (0 ≤ a ∧ a < 18446744073709551616) ∧ (0 ≤ b ∧ b < 18446744073709551616) ∧ (0 ≤ c ∧ c < 18446744073709551616))⟩
  have KN : Keep _ := ⟨hnso⟩
  have KW : Keep _ := ⟨hwso⟩
  clear hs ho hwso hnso hwa hwb hG ha hb hc
  refine calls_opq7 (fun act x => ∃ gs : List Nat, gs.length = 4 ∧ GlobD x ∧ act.tmps.size = 66 ∧ (∀ p ∈ ([(7, .val (.bool true)), (8, .ptr 0 0), (9, .ptr 1 0), (10, .ptr 2 0), (13, .ptr 3 0), (14, .val (.int .i64 0))] : List (Nat × AV)), act.tmps[p.1]? = some (p.2.den gs)) ∧ act.defers = [] ∧ Has x (gs.getD 0 0) 29 (ptA (PtK a false)) ∧ Has x (gs.getD 1 0) 29 (ptA (PtK b false)) ∧ Has x (gs.getD 2 0) 29 (ptA (PtK c true)) ∧ Has x (gs.getD 3 0) 29 (ptA (mulO K2 bb (num [s, o]).toNat (ptv K2 BL false))) ∧ RowKit.Below w.heap.size w x ∧ w.heap.size ≤ x.heap.size) Tryd.func8 rfl (fun act x h => ?_) (fun R' hR' => ?_)
  · obtain ⟨gs, g0, g1, g2, g3, g4, g5, g6, g7, g8, g9, g10⟩ := h
    exact rest_ok KR.out.1 KR.out.2.1 KN.out g0 g1 g2 g3 g4 g5 g6 g7 g8 (fun x' hb => ⟨rfl, g9.trans (hb.mono g10)⟩)
  simp only [Tryd.ntmps8, List.size_toArray, List.length_cons, List.length_nil, Nat.reduceAdd, Nat.reduceSub, Array.replicate_succ, Array.replicate_zero, List.push_toArray, List.append_toArray, List.nil_append, List.cons_append]
  go_wp2_with (first
    | (refine H11.nv rfl rfl rfl rfl rfl (by kernel_rfl) fun w12 H12 => ?_
       clear H11)
    | (go_at_call 22
       refine H10.call (mul_b _ 2 _ [s, o] w9.heap.size w10 (HD.out _ H10.bel) q5 KW.out hz10 (by omega)) fun w11 H11 => ?_
       clear H10 q5 hz10)
    | (go_at_call 12
       refine (base_c w9 (HD.out _ H9.bel)).mono ?_
       rintro e w10 ⟨rfl, hq10⟩
       have H10 := H9.keep hq10
       have q5 := q5x.keep hq10 (Nat.le_refl _)
       have hz10 := hq10.size
       clear H9 hq10 q5x)
    | (refine append_abs (by rfl) (.tmp 33) (.tmp 35) 35 (by rfl) w8.heap.size 23 .u64 8 Tryd.underlying35 u64Elem B5 1 d5 [s] (by rfl) (ho5.keep ((RowKit.Below.refl _ _).alloc (Nat.le_refl _) _)) (v5.heap.size + 1) (some ⟨v5.heap.size, 0, none⟩) 1 1 [o] (by rfl) (Rd.of_has (Has.new v5 23 (vals .u64 [o])) (by omega) (by rfl) (by simp)) 2 (by rfl) [s, o] (by rfl) (by omega) (by unfold maxLen; omega) (by simp; omega) ?_
       intro A5 c5 w9 hoo hbx
       have hbe := (hby.alloc hby.size (.cells (vals .u64 [o]) 23)).trans hbx
       have H9 := H8.keep hbe
       have q5x := (Frs.of_own hoo).rd
       clear hoo hbx hby hbz ho5 hbe H8)
    | (refine append_abs (by rfl) (.tmp 31) (.tmp 32) 35 (by rfl) w8.heap.size 23 .u64 8 Tryd.underlying35 u64Elem (some ⟨w8.heap.size, 0, none⟩) 0 0 [] (by rfl) (Own.of_has (Has.new w8 23 (vals .u64 [])) (Nat.le_refl _) (Nat.zero_le _)) w8.heap.size As 1 cs [s] (by rfl) (hF8.rd.keep ((RowKit.Below.refl w8.heap.size w8).alloc (Nat.le_refl _) _) (Nat.le_refl _)) 1 (by rfl) [s] (by rfl) (by omega) (by unfold maxLen; omega) (by simp) ?_
       intro B5 d5 v5 ho5 hbx
       have hby := ((RowKit.Below.refl w8.heap.size w8).alloc (Nat.le_refl _) (.cells (vals .u64 []) 23)).trans hbx
       have hbz := hby.size
       clear hbx)
    | (go_at_call 27
       refine (P1.out _ w7.heap.size (w7.heap.size + 1) ((Has.new w7 _ _).alloc _) (Has.new' _ (by simp) _ _)).mono ?_
       rintro r w8 ⟨As, cs, rfl, hF8, hq⟩
       have hbe := (((RowKit.Below.refl w7.heap.size w7).alloc (Nat.le_refl _) (.cells (vals .u64 [a]) 23)).alloc (by simp) (.cells (vals .u64 [b]) 23)).trans (hq.mono (by simp; omega))
       have H8 := H7.keep hbe
       clear hq hbe H7)
    | (refine H6.nv rfl rfl rfl rfl rfl (by kernel_rfl) fun w7 H7 => ?_
       clear H6)
    | (go_at_call 26
       have hq5 := H5
       refine H5.call (pointA c KR.out.2.2 true w5 (HD.out _ H5.bel)) fun w6 H6 => ?_
       clear H5 hq5)
    | (refine H4.nv rfl rfl rfl rfl rfl (by kernel_rfl) fun w5 H5 => ?_
       clear H4)
    | (go_at_call 26
       have hq3 := H3
       refine H3.call (pointA b KR.out.2.1 false w3 (HD.out _ H3.bel)) fun w4 H4 => ?_
       clear H3 hq3)
    | (refine H2.nv rfl rfl rfl rfl rfl (by kernel_rfl) fun w3 H3 => ?_
       clear H2)
    | (go_at_call 26
       have hq1 := H1
       refine H1.call (pointA a KR.out.1 false w1 (HD.out _ H1.bel)) fun w2 H2 => ?_
       clear H1 hq1)
    | (go_at_call 11
       refine H0.call (awake_c w (HD.out _ H0.bel)) fun w1 H1 => ?_
       clear H0))
  refine hR' _ _ ⟨[w2.heap.size, w4.heap.size, w6.heap.size, w11.heap.size], rfl, HD.out _ H12.bel, rfl, fun p hp => ?_, rfl, H12.at 0 rfl, H12.at 1 rfl, H12.at 2 rfl, H12.at 3 rfl, hS ▸ H12.bel, hS ▸ H12.sz⟩
  simp only [List.mem_cons, List.mem_nil_iff, or_false] at hp
  rcases hp with rfl | rfl | rfl | rfl | rfl | rfl <;> rfl
--MORE
end Go.Proofs.YtajiinecicghkaaDoor.S13B
