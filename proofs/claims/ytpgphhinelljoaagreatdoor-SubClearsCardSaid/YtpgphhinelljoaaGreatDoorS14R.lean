/-
  Own text. Layer 14 by the reckoner: the document's answer.
-/
import Derived.Test.YtpgphhinelljoaaGreatDoorMS14
import Derived.Test.YtpgphhinelljoaaGreatDoorS7
import Derived.Test.YtpgphhinelljoaaGreatDoorFp2RefP
import Derived.Test.YtpgphhinelljoaaGreatDoorFrR1
import Derived.Test.YtpgphhinelljoaaGreatDoorSxR
import Derived.Test.YtpgphhinelljoaaGreatDoorMV
namespace Go.Proofs.YtpgphhinelljoaaGreatDoor.S14R
set_option linter.unusedVariables false
set_option linter.unusedSimpArgs false
open Go Go.RowKit Go.Proofs.YtpgphhinelljoaaGreatDoor.Reg Go.Proofs.YtpgphhinelljoaaGreatDoor.Base Go.Proofs.YtpgphhinelljoaaGreatDoor.Limb Go.Proofs.YtpgphhinelljoaaGreatDoor.Sx Go.Proofs.YtpgphhinelljoaaGreatDoor.Fp Go.Proofs.YtpgphhinelljoaaGreatDoor.Fp2 Go.Proofs.YtpgphhinelljoaaGreatDoor.Ec Go.Proofs.YtpgphhinelljoaaGreatDoor.Pts Go.Proofs.YtpgphhinelljoaaGreatDoor.SubM Go.Proofs.YtpgphhinelljoaaGreatDoor.S14D Go.Proofs.YtpgphhinelljoaaGreatDoor.SxR Go.Proofs.YtpgphhinelljoaaGreatDoor.SxV

def thL : List Int := [10616391696595805070, 736713837172402858, 14776387573661061644, 14710942035944605247, 1804034592823567431, 624599539215846622]
def haL : List Int := [15924587544893707605, 1105070755758604287, 12941209323636816658, 12843041017062132063, 2706051889235351147, 936899308823769933]
def thN : Nat := 1334136518407222464472596608578634718852294273313002628444019378708010550163612621480895876376338554679298090853262
def haN : Nat := 2001204777610833696708894912867952078278441409969503942666029068062015825245418932221343814564507832018947136279893
def rdg (a : G) : G := (a.1 % PP, a.2 % PP)
theorem rdg_eq (a : G) : E2 (rdg a) a := ⟨Int.emod_emod _ _, Int.emod_emod _ _⟩
/-- Powers of numbers with u, by squaring. -/
def gpw : Nat → G → Nat → G
  | 0, _, _ => (1, 0)
  | f + 1, b, n => if n = 0 then (1, 0) else if n % 2 = 1 then rdg (gm (rdg (gm (gpw f b (n / 2)) (gpw f b (n / 2)))) b) else rdg (gm (gpw f b (n / 2)) (gpw f b (n / 2)))
theorem gpw_ok (b : G) : ∀ f n, n < 2 ^ f → E2 (gpw f b n) (gp b n)
  | 0, n, h => by
    obtain rfl : n = 0 := by omega
    exact E2.rfl
  | f + 1, n, h => by
    unfold gpw
    by_cases h0 : n = 0
    · rw [if_pos h0]
      subst h0
      exact E2.rfl
    · rw [if_neg h0]
      have ih := gpw_ok b f (n / 2) (by rw [Nat.pow_succ] at h; omega)
      have h2 : E2 (rdg (gm (gpw f b (n / 2)) (gpw f b (n / 2)))) (gp b (n / 2 + n / 2)) := by
        rw [gp_add]
        exact (rdg_eq _).trans (gm_congr ih ih)
      by_cases hd : n % 2 = 1
      · rw [if_pos hd]
        have e1 : gp b n = gm (gp b (n / 2 + n / 2)) b := by
          conv => lhs; rw [show n = n / 2 + n / 2 + 1 by omega]
          rfl
        rw [e1]
        exact (rdg_eq _).trans (gm_congr h2 E2.rfl)
      · rw [if_neg hd]
        have e1 : gp b n = gp b (n / 2 + n / 2) := by
          conv => lhs; rw [show n = n / 2 + n / 2 by omega]
        rw [e1]
        exact h2
/-- An inverse, known by a product. -/
theorem inv_of {y z : G} (h : FG.eq (FG.mul z y) (FG.int 1)) (hy : ¬ FG.Z y) : E2 (gi y) z := by
  refine G2K.feq.1 (FG.cancel hy ?_)
  have h1 := gm_gi hy
  have h2 : FG.eq (FG.mul y (gi y)) (FG.int 1) := G2K.feq.2 h1
  rw [FG.mul_comm]
  exact FG.trans h2 (FG.symm h)
theorem psc {n : Nat} {W : List Int} (hn : n < 2 ^ 384) (hz : ¬ FG.Z (gpw 384 (v2 [1, 0, 0, 0, 0, 0, 1, 0, 0, 0, 0, 0]) n)) (h : FG.eq (FG.mul (v2 W) (gpw 384 (v2 [1, 0, 0, 0, 0, 0, 1, 0, 0, 0, 0, 0]) n)) (FG.int 1)) (hW : F2 (v2 W) = W) : F2 (gi (v2 (F2 (gp (v2 [1, 0, 0, 0, 0, 0, 1, 0, 0, 0, 0, 0]) n)))) = W := by
  rw [← hW]
  exact F2_eq ((gi_congr ((v2_F2 _).trans (gpw_ok _ 384 n hn).symm)).trans (inv_of h hz))
theorem psx : F2 (gi (v2 (F2 (gp (v2 [1, 0, 0, 0, 0, 0, 1, 0, 0, 0, 0, 0]) (num [10616391696595805070, 736713837172402858, 14776387573661061644, 14710942035944605247, 1804034592823567431, 624599539215846622]).toNat)))) = XW := by
  rw [show (num [10616391696595805070, 736713837172402858, 14776387573661061644, 14710942035944605247, 1804034592823567431, 624599539215846622]).toNat = thN by decide +kernel]
  exact psc (by decide +kernel) (by decide +kernel) (by show FG.Z _; decide +kernel) (by decide +kernel)
theorem psy : F2 (gi (v2 (F2 (gp (v2 [1, 0, 0, 0, 0, 0, 1, 0, 0, 0, 0, 0]) (num [15924587544893707605, 1105070755758604287, 12941209323636816658, 12843041017062132063, 2706051889235351147, 936899308823769933]).toNat)))) = YW := by
  rw [show (num [15924587544893707605, 1105070755758604287, 12941209323636816658, 12843041017062132063, 2706051889235351147, 936899308823769933]).toNat = haN by decide +kernel]
  exact psc (by decide +kernel) (by decide +kernel) (by show FG.Z _; decide +kernel) (by decide +kernel)
def oWS (f : List Int → Nat → AV) : List AA → AV
  | [.w a, .sl _ l] => f a (Limb.num l).toNat
  | _ => .unk
theorem qPow : ConG Tryz.prog GlobD 42 [.w 12, .sl] G1K.Pre0 (oWS fun a m => .agg [.nums 12 (F2 (gp (v2 a) m))]) := by
  intro l hl _
  match l, hl with
  | [.w a, .sl n l], ⟨ha, ⟨hn, hl, hw⟩, _⟩ =>
    refine ⟨fun n => ⟨.F2 _, trivial⟩, fun _ => rfl, fun w hG vs hv => ?_⟩
    match vs, hv with
    | [v, u], ⟨hv, hu, _⟩ =>
      obtain rfl := hv
      obtain ⟨A, c, rfl, B, hB, hr⟩ := hu
      have h := refPowS a ha A n c l B w hr hw hB hn hG
      rw [oWS, den_nums]
      exact h
/-- A list that is written out. -/
def entL (l : List Int) : Ent3 := fun b0 _ args => match args with
  | [] => some (.slc b0 0 6 6, (22, [.nums 6 l]), [])
  | _ => none
theorem eok_list {F : FuncId} {fn : Func} {l : List Int} (hf : Tryz.prog.funcs[F]? = some fn) (hb : fn.body.isNone = false) (hn : (fn.name == "runtime.NumGoroutine") = false) (hl : Nm 6 l) (hc : ∀ w, Calls Tryz.prog F #[] w fun e w' => e = .returned (.slice (some ⟨w.heap.size, 0, none⟩) 6 6) ∧ Has w' w.heap.size 22 (vals .u64 l) ∧ RowKit.Below w.heap.size w w') : EOk3 Tryz.prog GlobD F (entL l) := by
  refine ⟨enter_of hf hb hn, fun bl args v t r ps gs he hH ho w hG hB => ?_⟩
  unfold entL at he
  split at he
  · injection he with he
    injection he with e1 e2
    injection e2 with e2 e3
    injection e2 with e2 e4
    subst e1 e2 e4
    refine ⟨⟨hl, trivial⟩, Nat.lt_succ_self _, ?_⟩
    refine (hc w).mono fun e w' ⟨e1, e2, e3⟩ => ⟨w.heap.size, Nat.le_refl _, ?_, ?_, e3⟩
    · have : (den [.nums 6 l]).toArray = vals .u64 l := by simp [den, Sg.den, vals]
      rw [this]
      exact e2
    · rw [e1, AV.den, getD_new]
  · cases he
set_option maxRecDepth 100000 in
theorem third_c (w : World) : Calls Tryz.prog 43 #[] w fun e w' => e = .returned (.slice (some ⟨w.heap.size, 0, none⟩) 6 6) ∧ Has w' w.heap.size 22 (vals .u64 thL) ∧ RowKit.Below w.heap.size w w' := by
  have hb := (RowKit.Below.refl w.heap.size w).alloc (Nat.le_refl _) (.cells (vals .u64 thL) 22)
  have hq : Has (w.alloc (.cells (vals .u64 thL) 22)) w.heap.size 22 (vals .u64 thL) := Has.new _ _ _
  go_enter Tryz.func43, Tryz.ntmps43
  go_wp2
  go_ret
  exact ⟨rfl, hq, hb⟩
set_option maxRecDepth 100000 in
theorem half_c (w : World) : Calls Tryz.prog 44 #[] w fun e w' => e = .returned (.slice (some ⟨w.heap.size, 0, none⟩) 6 6) ∧ Has w' w.heap.size 22 (vals .u64 haL) ∧ RowKit.Below w.heap.size w w' := by
  have hb := (RowKit.Below.refl w.heap.size w).alloc (Nat.le_refl _) (.cells (vals .u64 haL) 22)
  have hq : Has (w.alloc (.cells (vals .u64 haL) 22)) w.heap.size 22 (vals .u64 haL) := Has.new _ _ _
  go_enter Tryz.func44, Tryz.ntmps44
  go_wp2
  go_ret
  exact ⟨rfl, hq, hb⟩
def L0 : List (Fact Tryz.prog GlobD) := G1K.rMul.fact (.con Tryz.func31 rfl (by decide) G1K.rMul) ::
  G1K.rReduce.fact (.con Tryz.func33 rfl (by decide) G1K.rReduce) ::
  S7.qMul.fact (.con Tryz.func45 rfl (by decide) S7.qMul) ::
  S7.qConj.fact (.con Tryz.func46 rfl (by decide) S7.qConj) ::
  S7.qInv.fact (.con Tryz.func41 rfl (by decide) S7.qInv) ::
  []
def T0 : List (FuncId × Ent2) := [(24, entG [.sl, .p 12] G1K.Pre0 (S12R.oM S12R.mulA)), (38, entG [.sl, .p 24] G2K.Pre0 (S13R.oM S13R.mulA)), (42, entG [.w 12, .sl] G1K.Pre0 (oWS fun a m => .agg [.nums 12 (F2 (gp (v2 a) m))]))]
theorem T0_ok : TOk2 Tryz.prog GlobD T0 := ⟨.conG Tryz.func24 rfl (by decide) S12R.qMul, .conG Tryz.func38 rfl (by decide) S13R.qMul, .conG Tryz.func42 rfl (by decide) qPow, trivial⟩
def X0 : Cx := ((Cx.of [(24, 6), (34, 12)] (tb L0)).eqs [(26, 12), (36, 24)]).more T0
theorem X0_ok : CxOk Tryz.prog X0 GlobD := ((cx_ok (E := [(24, 6), (34, 12)]) L0 ⟨⟨G1K.eqF, G1K.gdF⟩, ⟨G2K.eqF, G2K.gdF⟩, trivial⟩ (by kernel_rfl)).eqs (EM := [(26, 12), (36, 24)]) ⟨⟨G1K.eqG, G1K.gdG⟩, ⟨G2K.eqG, G2K.gdG⟩, trivial⟩).more T0_ok
def L1 : List (Fact Tryz.prog GlobD) := ⟨32, entI 32 X0 9, .inline X0_ok GlobD.keep Tryz.func32 rfl (by decide)⟩ ::
  L0
def X1 : Cx := ((Cx.of [(24, 6), (34, 12)] (tb L1)).eqs [(26, 12), (36, 24)]).more T0
theorem X1_ok : CxOk Tryz.prog X1 GlobD := ((cx_ok (E := [(24, 6), (34, 12)]) L1 ⟨⟨G1K.eqF, G1K.gdF⟩, ⟨G2K.eqF, G2K.gdF⟩, trivial⟩ (by kernel_rfl)).eqs (EM := [(26, 12), (36, 24)]) ⟨⟨G1K.eqG, G1K.gdG⟩, ⟨G2K.eqG, G2K.gdG⟩, trivial⟩).more T0_ok
def T3 : List (FuncId × Ent3) := [(43, entL [10616391696595805070, 736713837172402858, 14776387573661061644, 14710942035944605247, 1804034592823567431, 624599539215846622]), (44, entL [15924587544893707605, 1105070755758604287, 12941209323636816658, 12843041017062132063, 2706051889235351147, 936899308823769933])]
theorem T3_ok : TOk3 Tryz.prog GlobD T3 := ⟨eok_list Tryz.func43 rfl (by decide) ⟨rfl, words_of _ (by decide)⟩ third_c, eok_list Tryz.func44 rfl (by decide) ⟨rfl, words_of _ (by decide)⟩ half_c, trivial⟩
def X2 : Cx := X1.made T3
theorem X2_ok : CxOk Tryz.prog X2 GlobD := X1_ok.made T3_ok
set_option maxRecDepth 100000 in
theorem qClear1 : ConG Tryz.prog GlobD 8 [.p 12] G1K.Pre0 (G1K.o1 fun x b => S12R.mulA hN1 x b) := G1K.con1 (fun x b n => S12R.mulA_ok _ _ _ _) (fun _ _ _ => rfl) (fun x hx b w hG => fn_outS (N := 9) X1_ok GlobD.keep Tryz.func8 [] (fun s hs => by cases hs) (G1K.noSS hG) (args := [.agg [.nums 12 x, .nm (.bl b)]]) (q := []) (v := (S12R.mulA (Limb.num hL1).toNat x b)) (obs := [1 ≤ 10000]) 1 (by kernel_rfl) (hp (by decide) trivial) (fun v hv => by
      simp only [List.mem_cons, List.not_mem_nil, or_false] at hv
      obtain rfl := hv
      exact ⟨hx, trivial, trivial⟩) (by rw [h1_num]) (by first | (simp only [List.map_cons, List.map_nil, G1K.p_den, G2K.p_den]; rfl) | simp only [List.map_cons, List.map_nil, G1K.p_den, G2K.p_den]))
set_option maxRecDepth 100000 in
theorem qPhi : ConG Tryz.prog GlobD 12 [.p 12] G1K.Pre0 (G1K.o1 fun x b => G1K.PA (phA (ptv G1K.K1 x b))) := G1K.con1 (fun x b n => G1K.pa_ok _ _) (fun x b gs => by rw [G1K.pa_den, G1K.pa_den]) (fun x hx b w hG => by
  cases b
  · exact fn_outS (N := 9) X1_ok GlobD.keep Tryz.func12 [] (fun s hs => by cases hs) (G1K.noSS hG) (args := [.agg [.nums 12 x, .nm (.bl false)]]) (q := [false]) (v := (.agg [.nums 12 (wm G1K.K1 (seg 0 6 x) BW ++ wr G1K.K1 (seg 6 6 x)), .nm (.bl false)])) (obs := [false = false]) 1 (by kernel_rfl) (hp (rfl) trivial) (fun v hv => by
      simp only [List.mem_cons, List.not_mem_nil, or_false] at hv
      obtain rfl := hv
      exact ⟨hx, trivial, trivial⟩) (by rw [ph_w, G1K.pa_den, G1K.p_den]; rfl) (by first | (simp only [List.map_cons, List.map_nil, G1K.p_den, G2K.p_den]; rfl) | simp only [List.map_cons, List.map_nil, G1K.p_den, G2K.p_den])
  · exact fn_outS (N := 9) X1_ok GlobD.keep Tryz.func12 [] (fun s hs => by cases hs) (G1K.noSS hG) (args := [.agg [.nums 12 x, .nm (.bl true)]]) (q := [true]) (v := (G1K.PA none)) (obs := [true = true]) 1 (by kernel_rfl) (hp (rfl) trivial) (fun v hv => by
      simp only [List.mem_cons, List.not_mem_nil, or_false] at hv
      obtain rfl := hv
      exact ⟨hx, trivial, trivial⟩) (by rw [ptv_t]; rfl) (by first | (simp only [List.map_cons, List.map_nil, G1K.p_den, G2K.p_den]; rfl) | simp only [List.map_cons, List.map_nil, G1K.p_den, G2K.p_den]))
set_option maxRecDepth 100000 in
theorem qClear2 : ConG Tryz.prog GlobD 18 [.p 24] G2K.Pre0 (G2K.o1 fun x b => S13R.mulA hN2 x b) := G2K.con1 (fun x b n => S13R.mulA_ok _ _ _ _) (fun _ _ _ => rfl) (fun x hx b w hG => fn_outS (N := 9) X1_ok GlobD.keep Tryz.func18 [] (fun s hs => by cases hs) (G1K.noSS hG) (args := [.agg [.nums 24 x, .nm (.bl b)]]) (q := []) (v := (S13R.mulA (Limb.num hL2).toNat x b)) (obs := [10 ≤ 10000]) 1 (by kernel_rfl) (hp (by decide) trivial) (fun v hv => by
      simp only [List.mem_cons, List.not_mem_nil, or_false] at hv
      obtain rfl := hv
      exact ⟨hx, trivial, trivial⟩) (by rw [h2_num]) (by first | (simp only [List.map_cons, List.map_nil, G1K.p_den, G2K.p_den]; rfl) | simp only [List.map_cons, List.map_nil, G1K.p_den, G2K.p_den]))
set_option maxRecDepth 100000 in
theorem qPsi : ConG Tryz.prog GlobD 16 [.p 24] G2K.Pre0 (G2K.o1 fun x b => G2K.PA (psA (ptv G2K.K2 x b))) := G2K.con1 (fun x b n => G2K.pa_ok _ _) (fun x b gs => by rw [G2K.pa_den, G2K.pa_den]) (fun x hx b w hG => by
  cases b
  · exact fn_outS (N := 9) X2_ok GlobD.keep Tryz.func16 [] (fun s hs => by cases hs) (G1K.noSS hG) (args := [.agg [.nums 24 x, .nm (.bl false)]]) (q := [false]) (v := (.agg [.nums 24 (F2 (gm (v2 (F2 (gc (v2 (seg 0 12 x))))) (v2 (F2 (gi (v2 (F2 (gp (v2 [1, 0, 0, 0, 0, 0, 1, 0, 0, 0, 0, 0]) (Limb.num [10616391696595805070, 736713837172402858, 14776387573661061644, 14710942035944605247, 1804034592823567431, 624599539215846622]).toNat))))))) ++ F2 (gm (v2 (F2 (gc (v2 (seg 12 12 x))))) (v2 (F2 (gi (v2 (F2 (gp (v2 [1, 0, 0, 0, 0, 0, 1, 0, 0, 0, 0, 0]) (Limb.num [15924587544893707605, 1105070755758604287, 12941209323636816658, 12843041017062132063, 2706051889235351147, 936899308823769933]).toNat)))))))), .nm (.bl false)])) (obs := [false = false, 6 ≤ 10000, 6 ≤ 10000, 6 ≤ 10000, 6 ≤ 10000, 6 ≤ 10000, 6 ≤ 10000]) 4 (by kernel_rfl) (hp (rfl) (hp (by decide) (hp (by decide) (hp (by decide) (hp (by decide) (hp (by decide) (hp (by decide) trivial))))))) (fun v hv => by
      simp only [List.mem_cons, List.not_mem_nil, or_false] at hv
      obtain rfl := hv
      exact ⟨hx, trivial, trivial⟩) (by rw [psx, psy, ps_w, G2K.pa_den, G2K.p_den]; rfl) (by first | (simp only [List.map_cons, List.map_nil, G1K.p_den, G2K.p_den]; rfl) | simp only [List.map_cons, List.map_nil, G1K.p_den, G2K.p_den])
  · exact fn_outS (N := 9) X2_ok GlobD.keep Tryz.func16 [] (fun s hs => by cases hs) (G1K.noSS hG) (args := [.agg [.nums 24 x, .nm (.bl true)]]) (q := [true]) (v := (G2K.PA none)) (obs := [true = true]) 1 (by kernel_rfl) (hp (rfl) trivial) (fun v hv => by
      simp only [List.mem_cons, List.not_mem_nil, or_false] at hv
      obtain rfl := hv
      exact ⟨hx, trivial, trivial⟩) (by rw [ptv_t]; rfl) (by first | (simp only [List.map_cons, List.map_nil, G1K.p_den, G2K.p_den]; rfl) | simp only [List.map_cons, List.map_nil, G1K.p_den, G2K.p_den]))
theorem calls_opq1 {P : Program} {g : FuncId} {fn : Func} {c0 R : Code} {args : Array Value} {w : World} {Q : Ending → World → Prop} (K : Act → World → Prop) (hf : P.funcs[g]? = some fn) (hb : fn.body = some (.seq c0 R))
    (hR : ∀ a x, K a x → R.wp P (bodyPost P fn Q) a x) (h : ∀ R', (∀ a x, K a x → R'.wp P (bodyPost P fn Q) a x) → (Code.seq c0 R').wp P (bodyPost P fn Q) { tmps := args ++ Array.replicate (fn.ntmps - args.size) undef, defers := [] } w) : Calls P g args w Q :=
  calls_of_wp hf hb (h R hR)
noncomputable def OP1 : Array Oper := (rg (rsN 1 (bodyOf Tryz.f10))).toArray
noncomputable def L1x : Array Bool := stm (Array.replicate OP1.size false) 1
def sA1 (A : Option Addr) (c : Nat) (x : List Int) (b : Bool) : List AV := mkSl 17 [(6, .ext A 4 c FrR.mL), (7, .agg [.nums 12 x, .nm (.bl b)])]
def sC1 (x : List Int) (b : Bool) : List AV := mkSl 17 [(3, .ptr 0 0), (4, .num .i64 (if onB G1K.K1 (G1K.K1.F.int 4) (ptv G1K.K1 x b) = true then (0 : Int) else 120))]
def bC1 (x : List Int) (b : Bool) : List Bk := [(26, [.nums 12 (ptW G1K.K1 (mulO G1K.K1 (G1K.K1.F.int 4) (Limb.num FrR.mL).toNat (ptv G1K.K1 x b))), .nm (.bl (ptB (mulO G1K.K1 (G1K.K1.F.int 4) (Limb.num FrR.mL).toNat (ptv G1K.K1 x b))))])]
def ptA1 (x : List Int) (b : Bool) : Array Value := vals .u64 (ptW G1K.K1 (mulO G1K.K1 (G1K.K1.F.int 4) (Limb.num FrR.mL).toNat (ptv G1K.K1 x b))) ++ #[.bool (ptB (mulO G1K.K1 (G1K.K1.F.int 4) (Limb.num FrR.mL).toNat (ptv G1K.K1 x b)))]
instance (x : List Int) (b : Bool) : Cz 13 (ptA1 x b) := ⟨by simp [ptA1, vals_size, (nm_ptW G1K.K1 _).len]; rfl, by simp [ptA1, vals, Value.oneCell']⟩
theorem mulc1 (x : List Int) (hx : Nm 12 x) (b : Bool) (A : Option Addr) (c B : Nat) (w : World) (hG : GlobD w) (hr : Rd w B A 4 .u64 FrR.mL) (hB : B ≤ w.heap.size) : Calls Tryz.prog 24 #[.slice A 4 c, .agg (vals .u64 x ++ #[.bool b])] w fun e w' => e = .returned (.tuple #[.agg (ptA1 x b), .int .i64 (if onB G1K.K1 (G1K.K1.F.int 4) (ptv G1K.K1 x b) = true then (0 : Int) else 120)]) ∧ RowKit.Below w.heap.size w w' := by
  have h := (S12R.qMul [.sl 4 FrR.mL, .p x b] ⟨⟨by decide, rfl, FrR.mL_words⟩, hx, trivial⟩ trivial).2.2 w hG [Value.slice A 4 c, Value.agg (vals .u64 x ++ #[Value.bool b])] ⟨⟨A, c, rfl, B, hB, hr⟩, rfl, trivial⟩
  rwa [show (S12R.oM S12R.mulA [.sl 4 FrR.mL, .p x b]).den [] = .tuple #[.agg (ptA1 x b), .int .i64 (if onB G1K.K1 (G1K.K1.F.int 4) (ptv G1K.K1 x b) = true then (0 : Int) else 120)] by simp [S12R.oM, S12R.mulA, AV.den, TV.den, den, Sg.den, NV.den, ptA1, vals]] at h
instance : Agg Tryz.prog 26 13 := .of Tryz.underlying26 (by kernel_rfl) rfl
set_option maxRecDepth 100000 in
set_option maxHeartbeats 2000000 in
theorem rest1 {x : List Int} (hx : Nm 12 x) {b : Bool} {q : List Bool} {V : Bool} {O : Option Addr → Nat → List Ob} {O2 : List Ob}
    (e0 : ∀ A c B, evalX Tryz.prog (X1.sym (DS [(A, 4, FrR.mL, B)]) []) 0 9 OP1 (stm L1x 0) 7 (rsN 2 (bodyOf Tryz.f10)) Tryz.f10.results.toList (sA1 A c x b) [] q = some ([.val (.bool V)], O A B))
    (e2 : evalR Tryz.prog X1 1 9 (rsN 2 (bodyOf Tryz.f10)) Tryz.f10.results.toList (sC1 x b) (bC1 x b) q = some ([.val (.bool V)], O2)) (hO2 : Holds O2)
    (hO : ∀ A B, DS [(A, 4, FrR.mL, B)] A 4 FrR.mL → Holds (O A B)) {act : Act} {y0 : World} {g0 : Nat} (hG0 : GlobD y0) (h1 : act.tmps.size = 17) (ht : act.tmps[1]? = some (.pointer (some ⟨g0, 0, none⟩))) (hd : act.defers = []) (q1 : Has y0 g0 26 (vals .u64 x ++ #[.bool b])) {Q : Ending → World → Prop} (hQ : ∀ x', RowKit.Below y0.heap.size y0 x' → Q (.returned (.bool V)) x') :
    (rsN 1 (bodyOf Tryz.f10)).wp Tryz.prog (bodyPost Tryz.prog Tryz.f10 Q) act y0 := by
  have hcz : Cz 13 (vals .u64 x ++ #[.bool b]) := ⟨by simp [vals_size, hx.len], by simp [vals, Value.oneCell']⟩
  have hc : rsN 1 (bodyOf Tryz.f10) = .seq (.region 1 OP1 true) (rsN 2 (bodyOf Tryz.f10)) := by kernel_rfl
  have hb0 : RowKit.Below y0.heap.size y0 y0.drew := ⟨rfl, rfl, rfl, Nat.le_refl _, fun _ _ => rfl⟩
  rw [hc]
  refine wp_seq ?_
  refine wp_regionU (S := fun u => RowKit.Below y0.drew.heap.size y0.drew u) (by kernel_rfl) ?_
  have hsel : Region.noSelect OP1 = true := by kernel_rfl
  suffices key : ∀ k, k = 7 + 1 + 1 → wpAnyU Tryz.prog .any OP1 (Exit.then (fun a x => (rsN 2 (bodyOf Tryz.f10)).wp Tryz.prog (bodyPost Tryz.prog Tryz.f10 Q) a x) (bodyPost Tryz.prog Tryz.f10 Q)) (fun u => RowKit.Below y0.drew.heap.size y0.drew u) k (Array.replicate OP1.size false) act y0.drew from key _ (by kernel_rfl)
  intro k hk
  subst hk
  have hS : ∀ u v : World, RowKit.Below y0.drew.heap.size y0.drew u → RowKit.Below u.heap.size u v → RowKit.Below y0.drew.heap.size y0.drew v := fun u v h h' => h.trans (h'.mono h.size)
  refine wpAnyU_take (i := 1) (oi := (opAt OP1 1)) hS (by kernel_rfl) hsel (by kernel_rfl) (by kernel_rfl) (post_panic _) (RowKit.Below.refl _ _) (st_load (g := g0) (t := 26) (ty := 26) (n := 13) (cs := (vals .u64 x ++ #[.bool b])) (fun u hu => (q1.keep hb0).keep hu) (by kernel_rfl) (p := .tmp 1) (by kernel_rfl) (eval_of ht)) ?_
  rw [show (opAt OP1 1).dst = some 7 from (by kernel_rfl)]
  obtain ⟨a1, ha1⟩ : ∃ a1, a1 = act.put (some 7) (.agg (vals .u64 x ++ #[.bool b])) := ⟨_, rfl⟩
  rw [← ha1]
  have z1 : a1.tmps.size = 17 := by rw [ha1, Act.size_put, h1]
  have f7 : a1.tmps[7]? = some (.agg (vals .u64 x ++ #[.bool b])) := by rw [ha1]; exact put_eq (by rw [h1]; decide)
  have d1 : a1.defers = [] := by rw [ha1]; exact put_defers.trans hd
  clear ha1 ht hd h1
  have hR1 : ∀ u : World, Calls Tryz.prog 28 #[] u fun e w' => ∃ v, e = .returned v ∧ ∃ A c, v = .slice A 4 c ∧ Own w' u.heap.size 22 .u64 A 4 c FrR.mL ∧ RowKit.Below u.heap.size u w' := fun u => (FrR.refR1_c u).mono fun e w' h => by
    obtain ⟨A, c, h1, h2, h3⟩ := h
    exact ⟨_, h1, A, c, rfl, h2, h3⟩
  have fq : ∀ (w1 : World), RowKit.Below y0.drew.heap.size y0.drew w1 → ∀ v ∈ [AV.val (.bool V)], ∀ x', RowKit.Below w1.heap.size w1 x' → ∀ gs' : List Nat, Q (.returned (v.den gs')) x' := fun w1 hw v hv x' hx' gs' => by
    obtain rfl := List.mem_singleton.1 hv
    exact hQ x' (hb0.trans (hw.trans (hx'.mono hw.size)))
  have fG : ∀ (A : Option Addr) (w1 : World), RowKit.Below y0.drew.heap.size y0.drew w1 → Rd w1 w1.heap.size A 4 .u64 FrR.mL → ∀ u, RowKit.Below w1.heap.size w1 u → GS GlobD [(A, 4, FrR.mL, w1.heap.size)] u := fun A w1 hw hr u hu => GS.keep (fun h k => h.keep k) ⟨(hG0.keep hb0).keep hw, fun s hs => by
    obtain rfl := List.mem_singleton.1 hs
    exact ⟨Nat.le_refl _, hr⟩⟩ hu
  have fC : ∀ (A : Option Addr) (B : Nat), CxB Tryz.prog (X1.sym (DS [(A, 4, FrR.mL, B)]) []) (GS GlobD [(A, 4, FrR.mL, B)]) := fun A B => X1_ok.toCxB.sym (fun u hu => hu.1) (DS_ok fun s hs => by obtain rfl := List.mem_singleton.1 hs; exact FrR.mL_words) []
  have fD : ∀ (A : Option Addr) (B : Nat), DS [(A, 4, FrR.mL, B)] A 4 FrR.mL := fun A B => ⟨B, by simp⟩
  change wpAnyU _ _ _ _ _ _ L1x a1 _
  have hr0 : Region.ready .any OP1 L1x = [0, 6] := by kernel_rfl
  have hr6 : Region.ready .any OP1 (stm L1x 6) = [0] := by kernel_rfl
  refine ⟨by rw [hr0]; simp, fun r hr u hu => ?_⟩
  rw [hr0] at hr
  have hr' : r = 0 ∨ r = 6 := by simpa using hr
  rcases hr' with rfl | rfl
  · refine call_run (o := opAt OP1 0) (d := 6) (by kernel_rfl) (by kernel_rfl) (by kernel_rfl) (by kernel_rfl) (enter_of Tryz.func28 rfl (by decide)) (hR1 u) ?_
    rintro v w1 ⟨A, c, rfl, how, hbw⟩
    have hrd := (Frs.of_own how).rd
    have hw1 := hS _ _ hu hbw
    refine ⟨hw1, wpAnyU_weaken (S' := fun z => Sst w1.heap.size w1 OP1 [] (sA1 A c x b) [] z ∧ w1.heap.size ≤ z.heap.size) (fun z hz => hw1.trans (hz.1.1.mono hw1.size)) ?_⟩
    refine rest_any (fC A w1.heap.size) rfl (fG A w1 hw1 hrd) hsel (by kernel_rfl) (e0 A c w1.heap.size) (hO A _ (fD A _)) (mkSl_ok (by rw [Act.size_put, z1]) fun p hp => ?_) (mkSl_sok fun p hp => ?_) (Nat.le_refl _) (wd_of (gs := []) (bs := []) rfl fun k t r hk => by simp at hk) (put_defers.trans d1) (fq w1 hw1)
    · simp only [List.mem_cons, List.not_mem_nil, or_false] at hp
      rcases hp with rfl | rfl
      · exact put_eq (by rw [z1]; decide)
      · exact (put_ne (d := 6) (k := 7) (by decide)).trans (f7.trans (congrArg some G1K.p_den.symm))
    · simp only [List.mem_cons, List.not_mem_nil, or_false] at hp
      rcases hp with rfl | rfl
      · trivial
      · exact ⟨hx, trivial, trivial⟩
  · have hal : AllocAt Tryz.prog OP1 6 3 26 (vals .u64 (List.replicate 12 0) ++ #[.bool false]) := ⟨⟨(opAt OP1 6), (by kernel_rfl), (by kernel_rfl), (by kernel_rfl), (by kernel_rfl)⟩, _, _, rfl, rfl, (by kernel_rfl)⟩
    have hu1 := hS _ _ hu ((RowKit.Below.refl u.heap.size u).alloc (Nat.le_refl _) (.cells (vals .u64 (List.replicate 12 0) ++ #[.bool false]) 26))
    refine hal.run ⟨hu1, ?_⟩
    have hg : Has (u.alloc (.cells (vals .u64 (List.replicate 12 0) ++ #[.bool false]) 26)) u.heap.size 26 (vals .u64 (List.replicate 12 0) ++ #[.bool false]) := Has.new _ _ _
    obtain ⟨u1, hue⟩ : ∃ u1, u1 = u.alloc (.cells (vals .u64 (List.replicate 12 0) ++ #[.bool false]) 26) := ⟨_, rfl⟩
    obtain ⟨g, hge⟩ : ∃ g, g = u.heap.size := ⟨_, rfl⟩
    rw [← hue] at hg hu1 ⊢
    rw [← hge] at hg ⊢
    have hgs : y0.drew.heap.size ≤ g := by rw [hge]; exact hu.size
    clear hue hge
    change wpAnyU _ _ _ _ _ _ (stm L1x 6) _ _
    refine ⟨by rw [hr6]; simp, fun r hr u2 hu2 => ?_⟩
    rw [hr6] at hr
    obtain rfl := List.mem_singleton.1 hr
    have hu3 := hS _ _ hu1 hu2
    refine call_run (o := opAt OP1 0) (d := 6) (by kernel_rfl) (by kernel_rfl) (by kernel_rfl) (by kernel_rfl) (enter_of Tryz.func28 rfl (by decide)) (hR1 u2) ?_
    rintro v w1 ⟨A, c, rfl, how, hbw⟩
    have hw1 := hS _ _ hu3 hbw
    have hgw := (hg.keep hu2).keep hbw
    have hgS : y0.drew.heap.size ≤ g := hgs
    have hbut : ∀ z, But g w1 z → RowKit.Below y0.drew.heap.size y0.drew z := fun z hz => hw1.trans (hz.below hgS hw1.size)
    have hap : ∀ q, A = some ⟨q, 0, none⟩ → g ≠ q := fun q hq => how.apart hgw (by decide) q hq
    have hru : ∀ z, But g w1 z → Rd z z.heap.size A 4 .u64 FrR.mL := fun z hz => (Frs.of_own (how.but hap hz)).rd
    have hS2 : ∀ u v : World, But g w1 u → RowKit.Below u.heap.size u v → But g w1 v := fun u v h h' => h.then h'
    have hrf : But g w1 w1 := But.of (RowKit.Below.refl _ _) _
    refine ⟨hw1, wpAnyU_weaken (S' := fun z => But g w1 z) hbut ?_⟩
    obtain ⟨a2, ha2⟩ : ∃ a2, a2 = (a1.put (some 3) (.pointer (some ⟨g, 0, none⟩))).put (some 6) (.slice A 4 c) := ⟨_, rfl⟩
    rw [← ha2]
    have z2 : a2.tmps.size = 17 := by rw [ha2]; simp only [Act.size_put, z1]
    have g3 : a2.tmps[3]? = some (.pointer (some ⟨g, 0, none⟩)) := by rw [ha2]; exact (put_ne (by decide)).trans (put_eq (by rw [z1]; decide))
    have g6 : a2.tmps[6]? = some (.slice A 4 c) := by rw [ha2]; exact put_eq (by rw [Act.size_put, z1]; decide)
    have g7 : a2.tmps[7]? = some (.agg (vals .u64 x ++ #[.bool b])) := by rw [ha2]; exact (put_ne (by decide)).trans ((put_ne (by decide)).trans f7)
    have gd : a2.defers = [] := by rw [ha2]; exact put_defers.trans (put_defers.trans d1)
    clear ha2
    change wpAnyU _ _ _ _ _ _ (stm (stm L1x 6) 0) _ _
    refine wpAnyU_take (i := 2) (oi := (opAt OP1 2)) hS2 (by kernel_rfl) hsel (by kernel_rfl) (by kernel_rfl) (post_panic _) hrf (st_call (v := (.tuple #[.agg (ptA1 x b), .int .i64 (if onB G1K.K1 (G1K.K1.F.int 4) (ptv G1K.K1 x b) = true then (0 : Int) else 120)])) (by kernel_rfl) (p := .tmp 6) (q := .tmp 7) (F := 24) (T := #[45, 26]) (by kernel_rfl) (eval_of g6) (eval_of g7) (enter_of Tryz.func24 rfl (by decide)) (fun z hz => mulc1 x hx b A c z.heap.size z ((hG0.keep hb0).keep (hbut z hz)) (hru z hz) (Nat.le_refl _))) ?_
    rw [show (opAt OP1 2).dst = some 8 from (by kernel_rfl)]
    refine wpAnyU_take (i := 3) (oi := (opAt OP1 3)) hS2 (by kernel_rfl) hsel (by kernel_rfl) (by kernel_rfl) (post_panic _) hrf (st_move (v := (.tuple #[.agg (ptA1 x b), .int .i64 (if onB G1K.K1 (G1K.K1.F.int 4) (ptv G1K.K1 x b) = true then (0 : Int) else 120)])) (by kernel_rfl) (p := .tmp 8) (by kernel_rfl) (eval_of (put_eq (by rw [z2]; decide)))) ?_
    rw [show (opAt OP1 3).dst = some 5 from (by kernel_rfl)]
    refine wpAnyU_take (i := 4) (oi := (opAt OP1 4)) hS2 (by kernel_rfl) hsel (by kernel_rfl) (by kernel_rfl) (post_panic _) hrf (st_extract (by kernel_rfl) (p := .tmp 5) (i := 0) (v := .agg (ptA1 x b)) (by kernel_rfl) (eval_of (put_eq (by simp only [Act.size_put, z2]; decide))) rfl) ?_
    rw [show (opAt OP1 4).dst = some 9 from (by kernel_rfl)]
    refine wpAnyU_take (i := 5) (oi := (opAt OP1 5)) hS2 (by kernel_rfl) hsel (by kernel_rfl) (by kernel_rfl) (post_panic _) hrf (st_extract (by kernel_rfl) (p := .tmp 5) (i := 1) (v := .int .i64 (if onB G1K.K1 (G1K.K1.F.int 4) (ptv G1K.K1 x b) = true then (0 : Int) else 120)) (by kernel_rfl) (eval_of ((put_ne (by decide)).trans (put_eq (by simp only [Act.size_put, z2]; decide)))) rfl) ?_
    rw [show (opAt OP1 5).dst = some 10 from (by kernel_rfl)]
    obtain ⟨b2, hb2⟩ : ∃ b2, b2 = ((((a2.put (some 8) (.tuple #[.agg (ptA1 x b), .int .i64 (if onB G1K.K1 (G1K.K1.F.int 4) (ptv G1K.K1 x b) = true then (0 : Int) else 120)])).put (some 5) (.tuple #[.agg (ptA1 x b), .int .i64 (if onB G1K.K1 (G1K.K1.F.int 4) (ptv G1K.K1 x b) = true then (0 : Int) else 120)])).put (some 9) (.agg (ptA1 x b))).put (some 10) (.int .i64 (if onB G1K.K1 (G1K.K1.F.int 4) (ptv G1K.K1 x b) = true then (0 : Int) else 120))) := ⟨_, rfl⟩
    rw [← hb2]
    have y2 : b2.tmps.size = 17 := by rw [hb2]; simp only [Act.size_put, z2]
    have k3 : b2.tmps[3]? = some (.pointer (some ⟨g, 0, none⟩)) := by rw [hb2, put_ne (by decide), put_ne (by decide), put_ne (by decide), put_ne (by decide)]; exact g3
    have k9 : b2.tmps[9]? = some (.agg (ptA1 x b)) := by rw [hb2]; exact (put_ne (by decide)).trans (put_eq (by simp only [Act.size_put, z2]; decide))
    have k10 : b2.tmps[10]? = some (.int .i64 (if onB G1K.K1 (G1K.K1.F.int 4) (ptv G1K.K1 x b) = true then (0 : Int) else 120)) := by rw [hb2]; exact put_eq (by simp only [Act.size_put, z2]; decide)
    have kd : b2.defers = [] := by rw [hb2]; simp only [put_defers]; exact gd
    clear hb2
    refine then_store (f := 1) (i := 7) (o := (opAt OP1 7)) (by kernel_rfl) (by kernel_rfl) (by kernel_rfl) (p := .tmp 3) (q := .tmp 9) (ty := 26) (by kernel_rfl) (by kernel_rfl) (g := g) (eval_of k3) (eval_of k9) hgw (by kernel_rfl) (fun w' hh hw' => ⟨hw', ?_⟩)
    refine end_take (i := 8) (oi := (opAt OP1 8)) hS2 (by kernel_rfl) hsel (by kernel_rfl) (by kernel_rfl) (by kernel_rfl) (post_panic _) hw' (st_assign (v := .int .i64 (if onB G1K.K1 (G1K.K1.F.int 4) (ptv G1K.K1 x b) = true then (0 : Int) else 120)) (by kernel_rfl) (p := .tmp 10) (by kernel_rfl) (eval_of k10)) (fun w2 hw2 => ?_)
    rw [show (opAt OP1 8).dst = some 4 from (by kernel_rfl)]
    have hwz := hbut w2 (hw'.then hw2)
    have hhz := hh.keep hw2
    show (rsN 2 (bodyOf Tryz.f10)).wp Tryz.prog (bodyPost Tryz.prog Tryz.f10 Q) _ w2
    refine tail_ok (gs := [g]) X1_ok.toCxB rfl (fun u hu => ((hG0.keep hb0).keep hwz).keep hu) e2 hO2 (mkSl_ok (by rw [Act.size_put, y2]) fun p hp => ?_) (mkSl_sok fun p hp => ?_) (Nat.le_refl _) (wd_of (gs := [g]) (bs := bC1 x b) rfl fun k t r hk => ?_) (put_defers.trans kd) (fq w2 hwz)
    · simp only [List.mem_cons, List.not_mem_nil, or_false] at hp
      rcases hp with rfl | rfl
      · exact (put_ne (by decide)).trans k3
      · exact put_eq (by rw [y2]; decide)
    · simp only [List.mem_cons, List.not_mem_nil, or_false] at hp
      rcases hp with rfl | rfl
      · exact Nat.zero_lt_one
      · trivial
    · match k, hk with
      | 0, hk =>
        obtain ⟨rfl, rfl⟩ : 26 = t ∧ [.nums 12 (ptW G1K.K1 (mulO G1K.K1 (G1K.K1.F.int 4) (Limb.num FrR.mL).toNat (ptv G1K.K1 x b))), .nm (.bl (ptB (mulO G1K.K1 (G1K.K1.F.int 4) (Limb.num FrR.mL).toNat (ptv G1K.K1 x b))))] = r := by simpa [bC1] using hk
        exact ⟨by rw [show (den [.nums 12 (ptW G1K.K1 (mulO G1K.K1 (G1K.K1.F.int 4) (Limb.num FrR.mL).toNat (ptv G1K.K1 x b))), .nm (.bl (ptB (mulO G1K.K1 (G1K.K1.F.int 4) (Limb.num FrR.mL).toNat (ptv G1K.K1 x b))))]).toArray = ptA1 x b by simp [den, Sg.den, NV.den, ptA1, vals]]; exact hhz, nm_ptW G1K.K1 _, trivial, trivial⟩
      | k + 1, hk => simp [bC1] at hk
noncomputable def OP2 : Array Oper := (rg (rsN 1 (bodyOf Tryz.f14))).toArray
noncomputable def L2x : Array Bool := stm (Array.replicate OP2.size false) 1
def sA2 (A : Option Addr) (c : Nat) (x : List Int) (b : Bool) : List AV := mkSl 17 [(6, .ext A 4 c FrR.mL), (7, .agg [.nums 24 x, .nm (.bl b)])]
def sC2 (x : List Int) (b : Bool) : List AV := mkSl 17 [(3, .ptr 0 0), (4, .num .i64 (if onB G2K.K2 G2K.bb (ptv G2K.K2 x b) = true then (0 : Int) else 120))]
def bC2 (x : List Int) (b : Bool) : List Bk := [(36, [.nums 24 (ptW G2K.K2 (mulO G2K.K2 G2K.bb (Limb.num FrR.mL).toNat (ptv G2K.K2 x b))), .nm (.bl (ptB (mulO G2K.K2 G2K.bb (Limb.num FrR.mL).toNat (ptv G2K.K2 x b))))])]
def ptA2 (x : List Int) (b : Bool) : Array Value := vals .u64 (ptW G2K.K2 (mulO G2K.K2 G2K.bb (Limb.num FrR.mL).toNat (ptv G2K.K2 x b))) ++ #[.bool (ptB (mulO G2K.K2 G2K.bb (Limb.num FrR.mL).toNat (ptv G2K.K2 x b)))]
instance (x : List Int) (b : Bool) : Cz 25 (ptA2 x b) := ⟨by simp [ptA2, vals_size, (nm_ptW G2K.K2 _).len]; rfl, by simp [ptA2, vals, Value.oneCell']⟩
theorem mulc2 (x : List Int) (hx : Nm 24 x) (b : Bool) (A : Option Addr) (c B : Nat) (w : World) (hG : GlobD w) (hr : Rd w B A 4 .u64 FrR.mL) (hB : B ≤ w.heap.size) : Calls Tryz.prog 38 #[.slice A 4 c, .agg (vals .u64 x ++ #[.bool b])] w fun e w' => e = .returned (.tuple #[.agg (ptA2 x b), .int .i64 (if onB G2K.K2 G2K.bb (ptv G2K.K2 x b) = true then (0 : Int) else 120)]) ∧ RowKit.Below w.heap.size w w' := by
  have h := (S13R.qMul [.sl 4 FrR.mL, .p x b] ⟨⟨by decide, rfl, FrR.mL_words⟩, hx, trivial⟩ trivial).2.2 w hG [Value.slice A 4 c, Value.agg (vals .u64 x ++ #[Value.bool b])] ⟨⟨A, c, rfl, B, hB, hr⟩, rfl, trivial⟩
  rwa [show (S13R.oM S13R.mulA [.sl 4 FrR.mL, .p x b]).den [] = .tuple #[.agg (ptA2 x b), .int .i64 (if onB G2K.K2 G2K.bb (ptv G2K.K2 x b) = true then (0 : Int) else 120)] by simp [S13R.oM, S13R.mulA, AV.den, TV.den, den, Sg.den, NV.den, ptA2, vals]] at h
instance : Agg Tryz.prog 36 25 := .of Tryz.underlying36 (by kernel_rfl) rfl
set_option maxRecDepth 100000 in
set_option maxHeartbeats 2000000 in
theorem rest2 {x : List Int} (hx : Nm 24 x) {b : Bool} {q : List Bool} {V : Bool} {O : Option Addr → Nat → List Ob} {O2 : List Ob}
    (e0 : ∀ A c B, evalX Tryz.prog (X1.sym (DS [(A, 4, FrR.mL, B)]) []) 0 9 OP2 (stm L2x 0) 7 (rsN 2 (bodyOf Tryz.f14)) Tryz.f14.results.toList (sA2 A c x b) [] q = some ([.val (.bool V)], O A B))
    (e2 : evalR Tryz.prog X1 1 9 (rsN 2 (bodyOf Tryz.f14)) Tryz.f14.results.toList (sC2 x b) (bC2 x b) q = some ([.val (.bool V)], O2)) (hO2 : Holds O2)
    (hO : ∀ A B, DS [(A, 4, FrR.mL, B)] A 4 FrR.mL → Holds (O A B)) {act : Act} {y0 : World} {g0 : Nat} (hG0 : GlobD y0) (h1 : act.tmps.size = 17) (ht : act.tmps[1]? = some (.pointer (some ⟨g0, 0, none⟩))) (hd : act.defers = []) (q1 : Has y0 g0 36 (vals .u64 x ++ #[.bool b])) {Q : Ending → World → Prop} (hQ : ∀ x', RowKit.Below y0.heap.size y0 x' → Q (.returned (.bool V)) x') :
    (rsN 1 (bodyOf Tryz.f14)).wp Tryz.prog (bodyPost Tryz.prog Tryz.f14 Q) act y0 := by
  have hcz : Cz 25 (vals .u64 x ++ #[.bool b]) := ⟨by simp [vals_size, hx.len], by simp [vals, Value.oneCell']⟩
  have hc : rsN 1 (bodyOf Tryz.f14) = .seq (.region 1 OP2 true) (rsN 2 (bodyOf Tryz.f14)) := by kernel_rfl
  have hb0 : RowKit.Below y0.heap.size y0 y0.drew := ⟨rfl, rfl, rfl, Nat.le_refl _, fun _ _ => rfl⟩
  rw [hc]
  refine wp_seq ?_
  refine wp_regionU (S := fun u => RowKit.Below y0.drew.heap.size y0.drew u) (by kernel_rfl) ?_
  have hsel : Region.noSelect OP2 = true := by kernel_rfl
  suffices key : ∀ k, k = 7 + 1 + 1 → wpAnyU Tryz.prog .any OP2 (Exit.then (fun a x => (rsN 2 (bodyOf Tryz.f14)).wp Tryz.prog (bodyPost Tryz.prog Tryz.f14 Q) a x) (bodyPost Tryz.prog Tryz.f14 Q)) (fun u => RowKit.Below y0.drew.heap.size y0.drew u) k (Array.replicate OP2.size false) act y0.drew from key _ (by kernel_rfl)
  intro k hk
  subst hk
  have hS : ∀ u v : World, RowKit.Below y0.drew.heap.size y0.drew u → RowKit.Below u.heap.size u v → RowKit.Below y0.drew.heap.size y0.drew v := fun u v h h' => h.trans (h'.mono h.size)
  refine wpAnyU_take (i := 1) (oi := (opAt OP2 1)) hS (by kernel_rfl) hsel (by kernel_rfl) (by kernel_rfl) (post_panic _) (RowKit.Below.refl _ _) (st_load (g := g0) (t := 36) (ty := 36) (n := 25) (cs := (vals .u64 x ++ #[.bool b])) (fun u hu => (q1.keep hb0).keep hu) (by kernel_rfl) (p := .tmp 1) (by kernel_rfl) (eval_of ht)) ?_
  rw [show (opAt OP2 1).dst = some 7 from (by kernel_rfl)]
  obtain ⟨a1, ha1⟩ : ∃ a1, a1 = act.put (some 7) (.agg (vals .u64 x ++ #[.bool b])) := ⟨_, rfl⟩
  rw [← ha1]
  have z1 : a1.tmps.size = 17 := by rw [ha1, Act.size_put, h1]
  have f7 : a1.tmps[7]? = some (.agg (vals .u64 x ++ #[.bool b])) := by rw [ha1]; exact put_eq (by rw [h1]; decide)
  have d1 : a1.defers = [] := by rw [ha1]; exact put_defers.trans hd
  clear ha1 ht hd h1
  have hR1 : ∀ u : World, Calls Tryz.prog 28 #[] u fun e w' => ∃ v, e = .returned v ∧ ∃ A c, v = .slice A 4 c ∧ Own w' u.heap.size 22 .u64 A 4 c FrR.mL ∧ RowKit.Below u.heap.size u w' := fun u => (FrR.refR1_c u).mono fun e w' h => by
    obtain ⟨A, c, h1, h2, h3⟩ := h
    exact ⟨_, h1, A, c, rfl, h2, h3⟩
  have fq : ∀ (w1 : World), RowKit.Below y0.drew.heap.size y0.drew w1 → ∀ v ∈ [AV.val (.bool V)], ∀ x', RowKit.Below w1.heap.size w1 x' → ∀ gs' : List Nat, Q (.returned (v.den gs')) x' := fun w1 hw v hv x' hx' gs' => by
    obtain rfl := List.mem_singleton.1 hv
    exact hQ x' (hb0.trans (hw.trans (hx'.mono hw.size)))
  have fG : ∀ (A : Option Addr) (w1 : World), RowKit.Below y0.drew.heap.size y0.drew w1 → Rd w1 w1.heap.size A 4 .u64 FrR.mL → ∀ u, RowKit.Below w1.heap.size w1 u → GS GlobD [(A, 4, FrR.mL, w1.heap.size)] u := fun A w1 hw hr u hu => GS.keep (fun h k => h.keep k) ⟨(hG0.keep hb0).keep hw, fun s hs => by
    obtain rfl := List.mem_singleton.1 hs
    exact ⟨Nat.le_refl _, hr⟩⟩ hu
  have fC : ∀ (A : Option Addr) (B : Nat), CxB Tryz.prog (X1.sym (DS [(A, 4, FrR.mL, B)]) []) (GS GlobD [(A, 4, FrR.mL, B)]) := fun A B => X1_ok.toCxB.sym (fun u hu => hu.1) (DS_ok fun s hs => by obtain rfl := List.mem_singleton.1 hs; exact FrR.mL_words) []
  have fD : ∀ (A : Option Addr) (B : Nat), DS [(A, 4, FrR.mL, B)] A 4 FrR.mL := fun A B => ⟨B, by simp⟩
  change wpAnyU _ _ _ _ _ _ L2x a1 _
  have hr0 : Region.ready .any OP2 L2x = [0, 6] := by kernel_rfl
  have hr6 : Region.ready .any OP2 (stm L2x 6) = [0] := by kernel_rfl
  refine ⟨by rw [hr0]; simp, fun r hr u hu => ?_⟩
  rw [hr0] at hr
  have hr' : r = 0 ∨ r = 6 := by simpa using hr
  rcases hr' with rfl | rfl
  · refine call_run (o := opAt OP2 0) (d := 6) (by kernel_rfl) (by kernel_rfl) (by kernel_rfl) (by kernel_rfl) (enter_of Tryz.func28 rfl (by decide)) (hR1 u) ?_
    rintro v w1 ⟨A, c, rfl, how, hbw⟩
    have hrd := (Frs.of_own how).rd
    have hw1 := hS _ _ hu hbw
    refine ⟨hw1, wpAnyU_weaken (S' := fun z => Sst w1.heap.size w1 OP2 [] (sA2 A c x b) [] z ∧ w1.heap.size ≤ z.heap.size) (fun z hz => hw1.trans (hz.1.1.mono hw1.size)) ?_⟩
    refine rest_any (fC A w1.heap.size) rfl (fG A w1 hw1 hrd) hsel (by kernel_rfl) (e0 A c w1.heap.size) (hO A _ (fD A _)) (mkSl_ok (by rw [Act.size_put, z1]) fun p hp => ?_) (mkSl_sok fun p hp => ?_) (Nat.le_refl _) (wd_of (gs := []) (bs := []) rfl fun k t r hk => by simp at hk) (put_defers.trans d1) (fq w1 hw1)
    · simp only [List.mem_cons, List.not_mem_nil, or_false] at hp
      rcases hp with rfl | rfl
      · exact put_eq (by rw [z1]; decide)
      · exact (put_ne (d := 6) (k := 7) (by decide)).trans (f7.trans (congrArg some G2K.p_den.symm))
    · simp only [List.mem_cons, List.not_mem_nil, or_false] at hp
      rcases hp with rfl | rfl
      · trivial
      · exact ⟨hx, trivial, trivial⟩
  · have hal : AllocAt Tryz.prog OP2 6 3 36 (vals .u64 (List.replicate 24 0) ++ #[.bool false]) := ⟨⟨(opAt OP2 6), (by kernel_rfl), (by kernel_rfl), (by kernel_rfl), (by kernel_rfl)⟩, _, _, rfl, rfl, (by kernel_rfl)⟩
    have hu1 := hS _ _ hu ((RowKit.Below.refl u.heap.size u).alloc (Nat.le_refl _) (.cells (vals .u64 (List.replicate 24 0) ++ #[.bool false]) 36))
    refine hal.run ⟨hu1, ?_⟩
    have hg : Has (u.alloc (.cells (vals .u64 (List.replicate 24 0) ++ #[.bool false]) 36)) u.heap.size 36 (vals .u64 (List.replicate 24 0) ++ #[.bool false]) := Has.new _ _ _
    obtain ⟨u1, hue⟩ : ∃ u1, u1 = u.alloc (.cells (vals .u64 (List.replicate 24 0) ++ #[.bool false]) 36) := ⟨_, rfl⟩
    obtain ⟨g, hge⟩ : ∃ g, g = u.heap.size := ⟨_, rfl⟩
    rw [← hue] at hg hu1 ⊢
    rw [← hge] at hg ⊢
    have hgs : y0.drew.heap.size ≤ g := by rw [hge]; exact hu.size
    clear hue hge
    change wpAnyU _ _ _ _ _ _ (stm L2x 6) _ _
    refine ⟨by rw [hr6]; simp, fun r hr u2 hu2 => ?_⟩
    rw [hr6] at hr
    obtain rfl := List.mem_singleton.1 hr
    have hu3 := hS _ _ hu1 hu2
    refine call_run (o := opAt OP2 0) (d := 6) (by kernel_rfl) (by kernel_rfl) (by kernel_rfl) (by kernel_rfl) (enter_of Tryz.func28 rfl (by decide)) (hR1 u2) ?_
    rintro v w1 ⟨A, c, rfl, how, hbw⟩
    have hw1 := hS _ _ hu3 hbw
    have hgw := (hg.keep hu2).keep hbw
    have hgS : y0.drew.heap.size ≤ g := hgs
    have hbut : ∀ z, But g w1 z → RowKit.Below y0.drew.heap.size y0.drew z := fun z hz => hw1.trans (hz.below hgS hw1.size)
    have hap : ∀ q, A = some ⟨q, 0, none⟩ → g ≠ q := fun q hq => how.apart hgw (by decide) q hq
    have hru : ∀ z, But g w1 z → Rd z z.heap.size A 4 .u64 FrR.mL := fun z hz => (Frs.of_own (how.but hap hz)).rd
    have hS2 : ∀ u v : World, But g w1 u → RowKit.Below u.heap.size u v → But g w1 v := fun u v h h' => h.then h'
    have hrf : But g w1 w1 := But.of (RowKit.Below.refl _ _) _
    refine ⟨hw1, wpAnyU_weaken (S' := fun z => But g w1 z) hbut ?_⟩
    obtain ⟨a2, ha2⟩ : ∃ a2, a2 = (a1.put (some 3) (.pointer (some ⟨g, 0, none⟩))).put (some 6) (.slice A 4 c) := ⟨_, rfl⟩
    rw [← ha2]
    have z2 : a2.tmps.size = 17 := by rw [ha2]; simp only [Act.size_put, z1]
    have g3 : a2.tmps[3]? = some (.pointer (some ⟨g, 0, none⟩)) := by rw [ha2]; exact (put_ne (by decide)).trans (put_eq (by rw [z1]; decide))
    have g6 : a2.tmps[6]? = some (.slice A 4 c) := by rw [ha2]; exact put_eq (by rw [Act.size_put, z1]; decide)
    have g7 : a2.tmps[7]? = some (.agg (vals .u64 x ++ #[.bool b])) := by rw [ha2]; exact (put_ne (by decide)).trans ((put_ne (by decide)).trans f7)
    have gd : a2.defers = [] := by rw [ha2]; exact put_defers.trans (put_defers.trans d1)
    clear ha2
    change wpAnyU _ _ _ _ _ _ (stm (stm L2x 6) 0) _ _
    refine wpAnyU_take (i := 2) (oi := (opAt OP2 2)) hS2 (by kernel_rfl) hsel (by kernel_rfl) (by kernel_rfl) (post_panic _) hrf (st_call (v := (.tuple #[.agg (ptA2 x b), .int .i64 (if onB G2K.K2 G2K.bb (ptv G2K.K2 x b) = true then (0 : Int) else 120)])) (by kernel_rfl) (p := .tmp 6) (q := .tmp 7) (F := 38) (T := #[45, 36]) (by kernel_rfl) (eval_of g6) (eval_of g7) (enter_of Tryz.func38 rfl (by decide)) (fun z hz => mulc2 x hx b A c z.heap.size z ((hG0.keep hb0).keep (hbut z hz)) (hru z hz) (Nat.le_refl _))) ?_
    rw [show (opAt OP2 2).dst = some 8 from (by kernel_rfl)]
    refine wpAnyU_take (i := 3) (oi := (opAt OP2 3)) hS2 (by kernel_rfl) hsel (by kernel_rfl) (by kernel_rfl) (post_panic _) hrf (st_move (v := (.tuple #[.agg (ptA2 x b), .int .i64 (if onB G2K.K2 G2K.bb (ptv G2K.K2 x b) = true then (0 : Int) else 120)])) (by kernel_rfl) (p := .tmp 8) (by kernel_rfl) (eval_of (put_eq (by rw [z2]; decide)))) ?_
    rw [show (opAt OP2 3).dst = some 5 from (by kernel_rfl)]
    refine wpAnyU_take (i := 4) (oi := (opAt OP2 4)) hS2 (by kernel_rfl) hsel (by kernel_rfl) (by kernel_rfl) (post_panic _) hrf (st_extract (by kernel_rfl) (p := .tmp 5) (i := 0) (v := .agg (ptA2 x b)) (by kernel_rfl) (eval_of (put_eq (by simp only [Act.size_put, z2]; decide))) rfl) ?_
    rw [show (opAt OP2 4).dst = some 9 from (by kernel_rfl)]
    refine wpAnyU_take (i := 5) (oi := (opAt OP2 5)) hS2 (by kernel_rfl) hsel (by kernel_rfl) (by kernel_rfl) (post_panic _) hrf (st_extract (by kernel_rfl) (p := .tmp 5) (i := 1) (v := .int .i64 (if onB G2K.K2 G2K.bb (ptv G2K.K2 x b) = true then (0 : Int) else 120)) (by kernel_rfl) (eval_of ((put_ne (by decide)).trans (put_eq (by simp only [Act.size_put, z2]; decide)))) rfl) ?_
    rw [show (opAt OP2 5).dst = some 10 from (by kernel_rfl)]
    obtain ⟨b2, hb2⟩ : ∃ b2, b2 = ((((a2.put (some 8) (.tuple #[.agg (ptA2 x b), .int .i64 (if onB G2K.K2 G2K.bb (ptv G2K.K2 x b) = true then (0 : Int) else 120)])).put (some 5) (.tuple #[.agg (ptA2 x b), .int .i64 (if onB G2K.K2 G2K.bb (ptv G2K.K2 x b) = true then (0 : Int) else 120)])).put (some 9) (.agg (ptA2 x b))).put (some 10) (.int .i64 (if onB G2K.K2 G2K.bb (ptv G2K.K2 x b) = true then (0 : Int) else 120))) := ⟨_, rfl⟩
    rw [← hb2]
    have y2 : b2.tmps.size = 17 := by rw [hb2]; simp only [Act.size_put, z2]
    have k3 : b2.tmps[3]? = some (.pointer (some ⟨g, 0, none⟩)) := by rw [hb2, put_ne (by decide), put_ne (by decide), put_ne (by decide), put_ne (by decide)]; exact g3
    have k9 : b2.tmps[9]? = some (.agg (ptA2 x b)) := by rw [hb2]; exact (put_ne (by decide)).trans (put_eq (by simp only [Act.size_put, z2]; decide))
    have k10 : b2.tmps[10]? = some (.int .i64 (if onB G2K.K2 G2K.bb (ptv G2K.K2 x b) = true then (0 : Int) else 120)) := by rw [hb2]; exact put_eq (by simp only [Act.size_put, z2]; decide)
    have kd : b2.defers = [] := by rw [hb2]; simp only [put_defers]; exact gd
    clear hb2
    refine then_store (f := 1) (i := 7) (o := (opAt OP2 7)) (by kernel_rfl) (by kernel_rfl) (by kernel_rfl) (p := .tmp 3) (q := .tmp 9) (ty := 36) (by kernel_rfl) (by kernel_rfl) (g := g) (eval_of k3) (eval_of k9) hgw (by kernel_rfl) (fun w' hh hw' => ⟨hw', ?_⟩)
    refine end_take (i := 8) (oi := (opAt OP2 8)) hS2 (by kernel_rfl) hsel (by kernel_rfl) (by kernel_rfl) (by kernel_rfl) (post_panic _) hw' (st_assign (v := .int .i64 (if onB G2K.K2 G2K.bb (ptv G2K.K2 x b) = true then (0 : Int) else 120)) (by kernel_rfl) (p := .tmp 10) (by kernel_rfl) (eval_of k10)) (fun w2 hw2 => ?_)
    rw [show (opAt OP2 8).dst = some 4 from (by kernel_rfl)]
    have hwz := hbut w2 (hw'.then hw2)
    have hhz := hh.keep hw2
    show (rsN 2 (bodyOf Tryz.f14)).wp Tryz.prog (bodyPost Tryz.prog Tryz.f14 Q) _ w2
    refine tail_ok (gs := [g]) X1_ok.toCxB rfl (fun u hu => ((hG0.keep hb0).keep hwz).keep hu) e2 hO2 (mkSl_ok (by rw [Act.size_put, y2]) fun p hp => ?_) (mkSl_sok fun p hp => ?_) (Nat.le_refl _) (wd_of (gs := [g]) (bs := bC2 x b) rfl fun k t r hk => ?_) (put_defers.trans kd) (fq w2 hwz)
    · simp only [List.mem_cons, List.not_mem_nil, or_false] at hp
      rcases hp with rfl | rfl
      · exact (put_ne (by decide)).trans k3
      · exact put_eq (by rw [y2]; decide)
    · simp only [List.mem_cons, List.not_mem_nil, or_false] at hp
      rcases hp with rfl | rfl
      · exact Nat.zero_lt_one
      · trivial
    · match k, hk with
      | 0, hk =>
        obtain ⟨rfl, rfl⟩ : 36 = t ∧ [.nums 24 (ptW G2K.K2 (mulO G2K.K2 G2K.bb (Limb.num FrR.mL).toNat (ptv G2K.K2 x b))), .nm (.bl (ptB (mulO G2K.K2 G2K.bb (Limb.num FrR.mL).toNat (ptv G2K.K2 x b))))] = r := by simpa [bC2] using hk
        exact ⟨by rw [show (den [.nums 24 (ptW G2K.K2 (mulO G2K.K2 G2K.bb (Limb.num FrR.mL).toNat (ptv G2K.K2 x b))), .nm (.bl (ptB (mulO G2K.K2 G2K.bb (Limb.num FrR.mL).toNat (ptv G2K.K2 x b))))]).toArray = ptA2 x b by simp [den, Sg.den, NV.den, ptA2, vals]]; exact hhz, nm_ptW G2K.K2 _, trivial, trivial⟩
      | k + 1, hk => simp [bC2] at hk
set_option maxRecDepth 100000 in
theorem hd1 (x : List Int) (b : Bool) (w : World) (hG : GlobD w) {Q : Ending → World → Prop} (hR : ∀ a y, (∃ g0, GlobD y ∧ a.tmps.size = 17 ∧ a.tmps[1]? = some (.pointer (some ⟨g0, 0, none⟩)) ∧ a.defers = [] ∧ Has y g0 26 (vals .u64 x ++ #[.bool b]) ∧ RowKit.Below w.heap.size w y ∧ w.heap.size ≤ y.heap.size) → (rsN 1 (bodyOf Tryz.f10)).wp Tryz.prog (bodyPost Tryz.prog Tryz.f10 Q) a y) : Calls Tryz.prog 10 #[.agg (vals .u64 x ++ #[.bool b])] w Q := by
  have hb := (RowKit.Below.refl w.heap.size w).alloc (Nat.le_refl _) (.cells (vals .u64 x ++ #[.bool b]) 26)
  have hq : Has (w.alloc (.cells (vals .u64 x ++ #[.bool b]) 26)) w.heap.size 26 (vals .u64 x ++ #[.bool b]) := Has.new _ _ _
  refine calls_opq1 (fun a y => (∃ g0, GlobD y ∧ a.tmps.size = 17 ∧ a.tmps[1]? = some (.pointer (some ⟨g0, 0, none⟩)) ∧ a.defers = [] ∧ Has y g0 26 (vals .u64 x ++ #[.bool b]) ∧ RowKit.Below w.heap.size w y ∧ w.heap.size ≤ y.heap.size)) Tryz.func10 rfl (fun a y h => hR a y h) (fun R' hR' => ?_)
  simp only [Tryz.ntmps10, List.size_toArray, List.length_cons, List.length_nil, Nat.reduceAdd, Nat.reduceSub, Array.replicate_succ, Array.replicate_zero, List.push_toArray, List.append_toArray, List.nil_append, List.cons_append]
  clear hR
  go_wp2
  exact hR' _ _ ⟨w.heap.size, hG.keep hb, rfl, rfl, rfl, hq, hb, hb.size⟩
set_option maxRecDepth 100000 in
theorem qIn1 : ConG Tryz.prog GlobD 10 [.p 12] G1K.Pre0 (G1K.o1 fun x b => .bl (inB G1K.K1 (G1K.K1.F.int 4) rN (ptv G1K.K1 x b))) := G1K.con1 (fun x b n => trivial) (fun x b gs => rfl) (fun x hx b w hG => by
  cases ho : onB G1K.K1 (G1K.K1.F.int 4) (ptv G1K.K1 x b)
  · rw [inB_off G1K.K1 ho]
    exact hd1 x b w hG (fun a y h => by
      obtain ⟨g0, k1, k2, k3, k4, k5, k6, k7⟩ := h
      exact rest1 (q := [false]) (V := false) (O := fun A B => [DS [(A, 4, FrR.mL, B)] A 4 FrR.mL, 4 ≤ 10000, qb false ((if onB G1K.K1 (G1K.K1.F.int 4) (ptv G1K.K1 x b) = true then (0 : Int) else 120) = 0)]) hx (O2 := [qb false ((if onB G1K.K1 (G1K.K1.F.int 4) (ptv G1K.K1 x b) = true then (0 : Int) else 120) = 0)]) (fun A c B => by kernel_rfl) (by kernel_rfl) (hp ((by rw [ho]; exact (by decide : ¬ (120 : Int) = 0))) trivial) (fun A B h => hp (h) (hp (by decide) (hp ((by rw [ho]; exact (by decide : ¬ (120 : Int) = 0))) trivial))) k1 k2 k3 k4 k5 (fun x' hb => ⟨rfl, k6.trans (hb.mono k7)⟩))
  · have hi := (inB_on G1K.K1 (r := rN) ho).symm
    rw [← show (Limb.num FrR.mL).toNat = rN from r_num] at hi
    cases e : inB G1K.K1 (G1K.K1.F.int 4) rN (ptv G1K.K1 x b)
    · rw [show inB G1K.K1 (G1K.K1.F.int 4) rN (ptv G1K.K1 x b) = ptB (mulO G1K.K1 (G1K.K1.F.int 4) (Limb.num FrR.mL).toNat (ptv G1K.K1 x b)) from hi.symm] at e
      exact hd1 x b w hG (fun a y h => by
      obtain ⟨g0, k1, k2, k3, k4, k5, k6, k7⟩ := h
      exact rest1 (q := [true, false]) (V := false) (O := fun A B => [DS [(A, 4, FrR.mL, B)] A 4 FrR.mL, 4 ≤ 10000, qb true ((if onB G1K.K1 (G1K.K1.F.int 4) (ptv G1K.K1 x b) = true then (0 : Int) else 120) = 0), ptB (mulO G1K.K1 (G1K.K1.F.int 4) (Limb.num FrR.mL).toNat (ptv G1K.K1 x b)) = false]) hx (O2 := [qb true ((if onB G1K.K1 (G1K.K1.F.int 4) (ptv G1K.K1 x b) = true then (0 : Int) else 120) = 0), ptB (mulO G1K.K1 (G1K.K1.F.int 4) (Limb.num FrR.mL).toNat (ptv G1K.K1 x b)) = false]) (fun A c B => by kernel_rfl) (by kernel_rfl) (hp (if_pos ho) (hp (e) trivial)) (fun A B h => hp (h) (hp (by decide) (hp (if_pos ho) (hp (e) trivial)))) k1 k2 k3 k4 k5 (fun x' hb => ⟨rfl, k6.trans (hb.mono k7)⟩))
    · rw [show inB G1K.K1 (G1K.K1.F.int 4) rN (ptv G1K.K1 x b) = ptB (mulO G1K.K1 (G1K.K1.F.int 4) (Limb.num FrR.mL).toNat (ptv G1K.K1 x b)) from hi.symm] at e
      exact hd1 x b w hG (fun a y h => by
      obtain ⟨g0, k1, k2, k3, k4, k5, k6, k7⟩ := h
      exact rest1 (q := [true, true]) (V := true) (O := fun A B => [DS [(A, 4, FrR.mL, B)] A 4 FrR.mL, 4 ≤ 10000, qb true ((if onB G1K.K1 (G1K.K1.F.int 4) (ptv G1K.K1 x b) = true then (0 : Int) else 120) = 0), ptB (mulO G1K.K1 (G1K.K1.F.int 4) (Limb.num FrR.mL).toNat (ptv G1K.K1 x b)) = true]) hx (O2 := [qb true ((if onB G1K.K1 (G1K.K1.F.int 4) (ptv G1K.K1 x b) = true then (0 : Int) else 120) = 0), ptB (mulO G1K.K1 (G1K.K1.F.int 4) (Limb.num FrR.mL).toNat (ptv G1K.K1 x b)) = true]) (fun A c B => by kernel_rfl) (by kernel_rfl) (hp (if_pos ho) (hp (e) trivial)) (fun A B h => hp (h) (hp (by decide) (hp (if_pos ho) (hp (e) trivial)))) k1 k2 k3 k4 k5 (fun x' hb => ⟨rfl, k6.trans (hb.mono k7)⟩)))
set_option maxRecDepth 100000 in
theorem hd2 (x : List Int) (b : Bool) (w : World) (hG : GlobD w) {Q : Ending → World → Prop} (hR : ∀ a y, (∃ g0, GlobD y ∧ a.tmps.size = 17 ∧ a.tmps[1]? = some (.pointer (some ⟨g0, 0, none⟩)) ∧ a.defers = [] ∧ Has y g0 36 (vals .u64 x ++ #[.bool b]) ∧ RowKit.Below w.heap.size w y ∧ w.heap.size ≤ y.heap.size) → (rsN 1 (bodyOf Tryz.f14)).wp Tryz.prog (bodyPost Tryz.prog Tryz.f14 Q) a y) : Calls Tryz.prog 14 #[.agg (vals .u64 x ++ #[.bool b])] w Q := by
  have hb := (RowKit.Below.refl w.heap.size w).alloc (Nat.le_refl _) (.cells (vals .u64 x ++ #[.bool b]) 36)
  have hq : Has (w.alloc (.cells (vals .u64 x ++ #[.bool b]) 36)) w.heap.size 36 (vals .u64 x ++ #[.bool b]) := Has.new _ _ _
  refine calls_opq1 (fun a y => (∃ g0, GlobD y ∧ a.tmps.size = 17 ∧ a.tmps[1]? = some (.pointer (some ⟨g0, 0, none⟩)) ∧ a.defers = [] ∧ Has y g0 36 (vals .u64 x ++ #[.bool b]) ∧ RowKit.Below w.heap.size w y ∧ w.heap.size ≤ y.heap.size)) Tryz.func14 rfl (fun a y h => hR a y h) (fun R' hR' => ?_)
  simp only [Tryz.ntmps14, List.size_toArray, List.length_cons, List.length_nil, Nat.reduceAdd, Nat.reduceSub, Array.replicate_succ, Array.replicate_zero, List.push_toArray, List.append_toArray, List.nil_append, List.cons_append]
  clear hR
  go_wp2
  exact hR' _ _ ⟨w.heap.size, hG.keep hb, rfl, rfl, rfl, hq, hb, hb.size⟩
set_option maxRecDepth 100000 in
theorem qIn2 : ConG Tryz.prog GlobD 14 [.p 24] G2K.Pre0 (G2K.o1 fun x b => .bl (inB G2K.K2 G2K.bb rN (ptv G2K.K2 x b))) := G2K.con1 (fun x b n => trivial) (fun x b gs => rfl) (fun x hx b w hG => by
  cases ho : onB G2K.K2 G2K.bb (ptv G2K.K2 x b)
  · rw [inB_off G2K.K2 ho]
    exact hd2 x b w hG (fun a y h => by
      obtain ⟨g0, k1, k2, k3, k4, k5, k6, k7⟩ := h
      exact rest2 (q := [false]) (V := false) (O := fun A B => [DS [(A, 4, FrR.mL, B)] A 4 FrR.mL, 4 ≤ 10000, qb false ((if onB G2K.K2 G2K.bb (ptv G2K.K2 x b) = true then (0 : Int) else 120) = 0)]) hx (O2 := [qb false ((if onB G2K.K2 G2K.bb (ptv G2K.K2 x b) = true then (0 : Int) else 120) = 0)]) (fun A c B => by kernel_rfl) (by kernel_rfl) (hp ((by rw [ho]; exact (by decide : ¬ (120 : Int) = 0))) trivial) (fun A B h => hp (h) (hp (by decide) (hp ((by rw [ho]; exact (by decide : ¬ (120 : Int) = 0))) trivial))) k1 k2 k3 k4 k5 (fun x' hb => ⟨rfl, k6.trans (hb.mono k7)⟩))
  · have hi := (inB_on G2K.K2 (r := rN) ho).symm
    rw [← show (Limb.num FrR.mL).toNat = rN from r_num] at hi
    cases e : inB G2K.K2 G2K.bb rN (ptv G2K.K2 x b)
    · rw [show inB G2K.K2 G2K.bb rN (ptv G2K.K2 x b) = ptB (mulO G2K.K2 G2K.bb (Limb.num FrR.mL).toNat (ptv G2K.K2 x b)) from hi.symm] at e
      exact hd2 x b w hG (fun a y h => by
      obtain ⟨g0, k1, k2, k3, k4, k5, k6, k7⟩ := h
      exact rest2 (q := [true, false]) (V := false) (O := fun A B => [DS [(A, 4, FrR.mL, B)] A 4 FrR.mL, 4 ≤ 10000, qb true ((if onB G2K.K2 G2K.bb (ptv G2K.K2 x b) = true then (0 : Int) else 120) = 0), ptB (mulO G2K.K2 G2K.bb (Limb.num FrR.mL).toNat (ptv G2K.K2 x b)) = false]) hx (O2 := [qb true ((if onB G2K.K2 G2K.bb (ptv G2K.K2 x b) = true then (0 : Int) else 120) = 0), ptB (mulO G2K.K2 G2K.bb (Limb.num FrR.mL).toNat (ptv G2K.K2 x b)) = false]) (fun A c B => by kernel_rfl) (by kernel_rfl) (hp (if_pos ho) (hp (e) trivial)) (fun A B h => hp (h) (hp (by decide) (hp (if_pos ho) (hp (e) trivial)))) k1 k2 k3 k4 k5 (fun x' hb => ⟨rfl, k6.trans (hb.mono k7)⟩))
    · rw [show inB G2K.K2 G2K.bb rN (ptv G2K.K2 x b) = ptB (mulO G2K.K2 G2K.bb (Limb.num FrR.mL).toNat (ptv G2K.K2 x b)) from hi.symm] at e
      exact hd2 x b w hG (fun a y h => by
      obtain ⟨g0, k1, k2, k3, k4, k5, k6, k7⟩ := h
      exact rest2 (q := [true, true]) (V := true) (O := fun A B => [DS [(A, 4, FrR.mL, B)] A 4 FrR.mL, 4 ≤ 10000, qb true ((if onB G2K.K2 G2K.bb (ptv G2K.K2 x b) = true then (0 : Int) else 120) = 0), ptB (mulO G2K.K2 G2K.bb (Limb.num FrR.mL).toNat (ptv G2K.K2 x b)) = true]) hx (O2 := [qb true ((if onB G2K.K2 G2K.bb (ptv G2K.K2 x b) = true then (0 : Int) else 120) = 0), ptB (mulO G2K.K2 G2K.bb (Limb.num FrR.mL).toNat (ptv G2K.K2 x b)) = true]) (fun A c B => by kernel_rfl) (by kernel_rfl) (hp (if_pos ho) (hp (e) trivial)) (fun A B h => hp (h) (hp (by decide) (hp (if_pos ho) (hp (e) trivial)))) k1 k2 k3 k4 k5 (fun x' hb => ⟨rfl, k6.trans (hb.mono k7)⟩)))
end Go.Proofs.YtpgphhinelljoaaGreatDoor.S14R
