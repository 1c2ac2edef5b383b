/-
  Own text. Layer 13 by the reckoner: the landed package.
-/
import Derived.Test.YtajiinecicghkaaDoorS13R
import Derived.Test.YtajiinecicghkaaDoorMPt
import Derived.Test.YtajiinecicghkaaDoorS7
namespace Go.Proofs.YtajiinecicghkaaDoor.S13O
set_option linter.unusedVariables false
set_option linter.unusedSimpArgs false
open Go Go.RowKit Go.Proofs.YtajiinecicghkaaDoor.Reg Go.Proofs.YtajiinecicghkaaDoor.Base Go.Proofs.YtajiinecicghkaaDoor.Limb Go.Proofs.YtajiinecicghkaaDoor.Sx Go.Proofs.YtajiinecicghkaaDoor.Fp Go.Proofs.YtajiinecicghkaaDoor.Fp2 Go.Proofs.YtajiinecicghkaaDoor.Ec Go.Proofs.YtajiinecicghkaaDoor.Pts Go.Proofs.YtajiinecicghkaaDoor.G2K Go.Proofs.YtajiinecicghkaaDoor.S13R Go.Proofs.YtajiinecicghkaaDoor.Ey

theorem pReduce : Con Tryd.prog GlobD 37 [12] (f1 fun x => W 12 (wr K2 x)) := S7.lReduce
theorem pAdd : Con Tryd.prog GlobD 42 [12, 12] (f2 fun x y => W 12 (wa K2 x y)) := S7.lAdd
theorem pSub : Con Tryd.prog GlobD 54 [12, 12] (f2 fun x y => W 12 (ws K2 x y)) := by rw [show (f2 fun x y => W 12 (ws K2 x y)) = f2 fun x y => W 12 (F2 (gs (v2 x) (v2 y))) from congrArg f2 (funext fun x => funext fun y => congrArg (W 12) (congrArg F2 (fsub _ _)))]; exact S7.lSub
theorem pNeg : Con Tryd.prog GlobD 38 [12] (f1 fun x => W 12 (wn K2 x)) := by rw [show (f1 fun x => W 12 (wn K2 x)) = f1 fun x => W 12 (F2 (gn (v2 x))) from congrArg f1 (funext fun x => congrArg (W 12) (congrArg F2 ((fsub _ _).trans (by show ((0 : Int) - (v2 x).1, (0 : Int) - (v2 x).2) = (-(v2 x).1, -(v2 x).2); rw [Int.zero_sub, Int.zero_sub]))))]; exact S7.lNeg
theorem pMul : Con Tryd.prog GlobD 41 [12, 12] (f2 fun x y => W 12 (wm K2 x y)) := S7.lMul
theorem pInv : Con Tryd.prog GlobD 56 [12] (f1 fun x => W 12 (wi K2 x)) := S7.lInv
def L0 : List (Fact Tryd.prog GlobD) := pReduce.fact (.con Tryd.func37 rfl (by decide) pReduce) ::
  pAdd.fact (.con Tryd.func42 rfl (by decide) pAdd) ::
  pSub.fact (.con Tryd.func54 rfl (by decide) pSub) ::
  pNeg.fact (.con Tryd.func38 rfl (by decide) pNeg) ::
  pMul.fact (.con Tryd.func41 rfl (by decide) pMul) ::
  pInv.fact (.con Tryd.func56 rfl (by decide) pInv) ::
  []
def X0 : Cx := .of [] (tb L0)
theorem X0_ok : CxOk Tryd.prog X0 GlobD := cx_ok L0 trivial (by kernel_rfl)
def L1 : List (Fact Tryd.prog GlobD) := ⟨30, entI 30 X0 9, .inline X0_ok GlobD.keep Tryd.func30 rfl (by decide)⟩ ::
  ⟨57, entI 57 X0 9, .inline X0_ok GlobD.keep Tryd.func57 rfl (by decide)⟩ ::
  L0
def X1 : Cx := .of [] (tb L1)
theorem X1_ok : CxOk Tryd.prog X1 GlobD := cx_ok L1 trivial (by kernel_rfl)
def L2 : List (Fact Tryd.prog GlobD) := ⟨55, entI 55 X1 9, .inline X1_ok GlobD.keep Tryd.func55 rfl (by decide)⟩ ::
  L1
def X2 : Cx := .of [] (tb L2)
theorem X2_ok : CxOk Tryd.prog X2 GlobD := cx_ok L2 trivial (by kernel_rfl)
def L3 : List (Fact Tryd.prog GlobD) := ⟨32, entI 32 X2 9, .inline X2_ok GlobD.keep Tryd.func32 rfl (by decide)⟩ ::
  ⟨33, entI 33 X2 9, .inline X2_ok GlobD.keep Tryd.func33 rfl (by decide)⟩ ::
  ⟨31, entI 31 X2 9, .inline X2_ok GlobD.keep Tryd.func31 rfl (by decide)⟩ ::
  L2
def XA : Cx := ((Cx.of [(27, 12)] (tb L3)).eqs [(29, 24)]).more []
theorem XA_ok : CxOk Tryd.prog XA GlobD := ((cx_ok (E := [(27, 12)]) L3 ⟨⟨G2K.eqF, G2K.gdF⟩, trivial⟩ (by kernel_rfl)).eqs (EM := [(29, 24)]) ⟨⟨eqG, gdG⟩, trivial⟩).more (T2 := []) trivial
set_option maxRecDepth 100000 in
theorem lReduce : ConG Tryd.prog GlobD 18 [.p 24] Pre0 (o1 fun x b => PA (ptv K2 x b)) := con1 (fun x b n => pa_ok _ _) (fun x b gs => by rw [pa_den, pa_den]) (fun x hx b w hG => by
  cases b
  · exact fn_outS (N := 9) XA_ok GlobD.keep Tryd.func18 [] (fun s hs => by cases hs) (noSS hG) (args := [.agg [.nums 24 x, .nm (.bl false)]]) (q := [false]) (v := (.agg [.nums 24 (wr K2 (seg 0 12 x) ++ wr K2 (seg 12 12 x)), .nm (.bl false)])) (obs := [false = false]) 1 (by kernel_rfl) (hp (rfl) trivial) (fun v hv => by
      simp only [List.mem_cons, List.not_mem_nil, or_false] at hv
      obtain rfl := hv
      exact ⟨hx, trivial, trivial⟩) (by rw [ptv_f]; rfl) (by simp only [List.map_cons, List.map_nil, p_den])
  · exact fn_outS (N := 9) XA_ok GlobD.keep Tryd.func18 [] (fun s hs => by cases hs) (noSS hG) (args := [.agg [.nums 24 x, .nm (.bl true)]]) (q := [true]) (v := (PA none)) (obs := [true = true]) 1 (by kernel_rfl) (hp (rfl) trivial) (fun v hv => by
      simp only [List.mem_cons, List.not_mem_nil, or_false] at hv
      obtain rfl := hv
      exact ⟨hx, trivial, trivial⟩) (by rw [ptv_t]) (by simp only [List.map_cons, List.map_nil, p_den]))
set_option maxRecDepth 100000 in
theorem lNeg : ConG Tryd.prog GlobD 16 [.p 24] Pre0 (o1 fun x b => PA (negP K2.F (ptv K2 x b))) := con1 (fun x b n => pa_ok _ _) (fun x b gs => by rw [pa_den, pa_den]) (fun x hx b w hG => by
  cases b
  · exact fn_outS (N := 9) XA_ok GlobD.keep Tryd.func16 [] (fun s hs => by cases hs) (noSS hG) (args := [.agg [.nums 24 x, .nm (.bl false)]]) (q := [false]) (v := (.agg [.nums 24 (wr K2 (seg 0 12 x) ++ wn K2 (seg 12 12 x)), .nm (.bl false)])) (obs := [false = false]) 1 (by kernel_rfl) (hp (rfl) trivial) (fun v hv => by
      simp only [List.mem_cons, List.not_mem_nil, or_false] at hv
      obtain rfl := hv
      exact ⟨hx, trivial, trivial⟩) (by rw [ptv_f]; rfl) (by simp only [List.map_cons, List.map_nil, p_den])
  · exact fn_outS (N := 9) XA_ok GlobD.keep Tryd.func16 [] (fun s hs => by cases hs) (noSS hG) (args := [.agg [.nums 24 x, .nm (.bl true)]]) (q := [true]) (v := (PA none)) (obs := [true = true]) 1 (by kernel_rfl) (hp (rfl) trivial) (fun v hv => by
      simp only [List.mem_cons, List.not_mem_nil, or_false] at hv
      obtain rfl := hv
      exact ⟨hx, trivial, trivial⟩) (by rw [ptv_t]; rfl) (by simp only [List.map_cons, List.map_nil, p_den]))
set_option maxRecDepth 100000 in
theorem lOn : ConG Tryd.prog GlobD 20 [.p 24] Pre0 (o1 fun x b => .bl (onB K2 bb (ptv K2 x b))) := con1 (fun x b n => trivial) (fun x b gs => rfl) (fun x hx b w hG => by
  cases b
  · have ho := on_wc (K := K2) (hb := hb) (seg 0 12 x) (seg 12 12 x)
    by_cases h : wm K2 (seg 12 12 x) (seg 12 12 x) = wa K2 (wm K2 (wm K2 (seg 0 12 x) (seg 0 12 x)) (seg 0 12 x)) cb
    · exact fn_outS (N := 9) XA_ok GlobD.keep Tryd.func20 [] (fun s hs => by cases hs) (noSS hG) (args := [.agg [.nums 24 x, .nm (.bl false)]]) (q := [false, true]) (v := (.bl true)) (obs := [false = false, qb true (wm K2 (seg 12 12 x) (seg 12 12 x) = wa K2 (wm K2 (wm K2 (seg 0 12 x) (seg 0 12 x)) (seg 0 12 x)) cb)]) 1 (by kernel_rfl) (hp (rfl) (hp (h) trivial)) (fun v hv => by
      simp only [List.mem_cons, List.not_mem_nil, or_false] at hv
      obtain rfl := hv
      exact ⟨hx, trivial, trivial⟩) (by rw [ptv_f]; exact congrArg Value.bool (ho.1 h).symm) (by simp only [List.map_cons, List.map_nil, p_den])
    · exact fn_outS (N := 9) XA_ok GlobD.keep Tryd.func20 [] (fun s hs => by cases hs) (noSS hG) (args := [.agg [.nums 24 x, .nm (.bl false)]]) (q := [false, false]) (v := (.bl false)) (obs := [false = false, qb false (wm K2 (seg 12 12 x) (seg 12 12 x) = wa K2 (wm K2 (wm K2 (seg 0 12 x) (seg 0 12 x)) (seg 0 12 x)) cb)]) 1 (by kernel_rfl) (hp (rfl) (hp (h) trivial)) (fun v hv => by
      simp only [List.mem_cons, List.not_mem_nil, or_false] at hv
      obtain rfl := hv
      exact ⟨hx, trivial, trivial⟩) (by rw [ptv_f]; exact congrArg Value.bool (Bool.eq_false_iff.2 (fun e => h (ho.2 e))).symm) (by simp only [List.map_cons, List.map_nil, p_den])
  · exact fn_outS (N := 9) XA_ok GlobD.keep Tryd.func20 [] (fun s hs => by cases hs) (noSS hG) (args := [.agg [.nums 24 x, .nm (.bl true)]]) (q := [true]) (v := (.bl true)) (obs := [true = true]) 1 (by kernel_rfl) (hp (rfl) trivial) (fun v hv => by
      simp only [List.mem_cons, List.not_mem_nil, or_false] at hv
      obtain rfl := hv
      exact ⟨hx, trivial, trivial⟩) (by rw [ptv_t]; rfl) (by simp only [List.map_cons, List.map_nil, p_den]))
def T2 : List (FuncId × Ent2) := [(18, entG [.p 24] Pre0 (o1 fun x b => PA (ptv K2 x b))), (16, entG [.p 24] Pre0 (o1 fun x b => PA (negP K2.F (ptv K2 x b)))), (20, entG [.p 24] Pre0 (o1 fun x b => .bl (onB K2 bb (ptv K2 x b))))]
theorem T2_ok : TOk2 Tryd.prog GlobD T2 := ⟨.conG Tryd.func18 rfl (by decide) lReduce, .conG Tryd.func16 rfl (by decide) lNeg, .conG Tryd.func20 rfl (by decide) lOn, trivial⟩
def XB : Cx := ((Cx.of [(27, 12)] (tb L3)).eqs [(29, 24)]).more T2
theorem XB_ok : CxOk Tryd.prog XB GlobD := ((cx_ok (E := [(27, 12)]) L3 ⟨⟨G2K.eqF, G2K.gdF⟩, trivial⟩ (by kernel_rfl)).eqs (EM := [(29, 24)]) ⟨⟨eqG, gdG⟩, trivial⟩).more T2_ok
theorem nb_ {x l : List Int} : ¬ (ptW K2 (ptv K2 x false) = l ∧ ptB (ptv K2 x false) = true) := fun h => Bool.false_ne_true h.2
theorem tb_ (x : List Int) : ptW K2 (ptv K2 x true) = [0, 0, 0, 0, 0, 0, 0, 0, 0, 0, 0, 0, 0, 0, 0, 0, 0, 0, 0, 0, 0, 0, 0, 0] ∧ ptB (ptv K2 x true) = true := by
  rw [ptv_t]
  exact ⟨rfl, rfl⟩
theorem pteq {x y : List Int} : (ptW K2 (ptv K2 x false) = ptW K2 (ptv K2 y false) ∧ ptB (ptv K2 x false) = ptB (ptv K2 y false)) ↔ wr K2 (seg 0 12 x) = wr K2 (seg 0 12 y) ∧ wr K2 (seg 12 12 x) = wr K2 (seg 12 12 y) := by
  constructor
  · rintro ⟨h, _⟩
    rw [← rx, ← rx, ← ry, ← ry, h]
    exact ⟨rfl, rfl⟩
  · rintro ⟨h, k⟩
    rw [ptv_f, ptv_f]
    refine ⟨?_, rfl⟩
    show wr K2 (seg 0 12 x) ++ wr K2 (seg 12 12 x) = wr K2 (seg 0 12 y) ++ wr K2 (seg 12 12 y)
    rw [h, k]
theorem xsw_r (l p q : List Int) : xsw K2 l (wr K2 p) (wr K2 q) = xsw K2 l p q := by simp only [xsw, ws, wr, sub_r]
theorem ysw_r (l p q x : List Int) : ysw K2 l (wr K2 p) (wr K2 q) x = ysw K2 l p q x := by simp only [ysw, ws, wm, wr, sub_l, sub_r]
set_option maxRecDepth 100000 in
theorem lAdd : ConG Tryd.prog GlobD 14 [.p 24, .p 24] Pre0 (o2 fun x b y c => PA (addP K2.F (ptv K2 x b) (ptv K2 y c))) := con2 (fun x b y c n => pa_ok _ _) (fun x b y c gs => by rw [pa_den, pa_den]) (fun x hx b y hy c w hG => by
  cases b
  · cases c
    · by_cases e1 : wr K2 (seg 0 12 x) = wr K2 (seg 0 12 y)
      · by_cases e2 : wr K2 (seg 12 12 x) = wr K2 (seg 12 12 y)
        · by_cases e3 : wr K2 (seg 12 12 x) = c0
          · exact fn_outS (N := 9) XB_ok GlobD.keep Tryd.func14 [] (fun s hs => by cases hs) (noSS hG) (args := [.agg [.nums 24 x, .nm (.bl false)], .agg [.nums 24 y, .nm (.bl false)]]) (q := [false, false, true, true, true]) (v := (PA none)) (obs := [qb false (ptW K2 (ptv K2 x false) = [0, 0, 0, 0, 0, 0, 0, 0, 0, 0, 0, 0, 0, 0, 0, 0, 0, 0, 0, 0, 0, 0, 0, 0] ∧ ptB (ptv K2 x false) = true), qb false (ptW K2 (ptv K2 y false) = [0, 0, 0, 0, 0, 0, 0, 0, 0, 0, 0, 0, 0, 0, 0, 0, 0, 0, 0, 0, 0, 0, 0, 0] ∧ ptB (ptv K2 y false) = true), qb true (ptW K2 (ptv K2 x false) = ptW K2 (ptv K2 y false) ∧ ptB (ptv K2 x false) = ptB (ptv K2 y false)), qb true ((seg 12 12 (ptW K2 (ptv K2 x false))) = [0, 0, 0, 0, 0, 0, 0, 0, 0, 0, 0, 0]), qb true ((seg 0 12 (ptW K2 (ptv K2 x false))) = (seg 0 12 (ptW K2 (ptv K2 y false))))]) 1 (by kernel_rfl) (hp (nb_) (hp (nb_) (hp (pteq.2 ⟨e1, e2⟩) (hp ((by rw [ry]; exact e3)) (hp ((by rw [rx, rx]; exact e1)) trivial))))) (fun v hv => by
      simp only [List.mem_cons, List.not_mem_nil, or_false] at hv
      rcases hv with rfl | rfl
      · exact ⟨hx, trivial, trivial⟩
      · exact ⟨hy, trivial, trivial⟩) (by rw [add_no K2 h0 (show (slF K2 c0 c2 c3 x y).2 = false by rw [show slF K2 c0 c2 c3 x y = (List.replicate 12 0, false) from (if_pos e1).trans (if_neg fun h => h.2 e3)])]) (by simp only [List.map_cons, List.map_nil, p_den])
          · exact fn_outS (N := 9) XB_ok GlobD.keep Tryd.func14 [] (fun s hs => by cases hs) (noSS hG) (args := [.agg [.nums 24 x, .nm (.bl false)], .agg [.nums 24 y, .nm (.bl false)]]) (q := [false, false, true, false]) (v := (.agg [.nums 24 (xsw K2 (slTl K2 (seg 0 12 (ptW K2 (ptv K2 x false))) (seg 12 12 (ptW K2 (ptv K2 x false)))) (seg 0 12 (ptW K2 (ptv K2 x false))) (seg 0 12 (ptW K2 (ptv K2 y false))) ++ ysw K2 (slTl K2 (seg 0 12 (ptW K2 (ptv K2 x false))) (seg 12 12 (ptW K2 (ptv K2 x false)))) (seg 0 12 (ptW K2 (ptv K2 x false))) (seg 12 12 (ptW K2 (ptv K2 x false))) (xsw K2 (slTl K2 (seg 0 12 (ptW K2 (ptv K2 x false))) (seg 12 12 (ptW K2 (ptv K2 x false)))) (seg 0 12 (ptW K2 (ptv K2 x false))) (seg 0 12 (ptW K2 (ptv K2 y false))))), .nm (.bl false)])) (obs := [qb false (ptW K2 (ptv K2 x false) = [0, 0, 0, 0, 0, 0, 0, 0, 0, 0, 0, 0, 0, 0, 0, 0, 0, 0, 0, 0, 0, 0, 0, 0] ∧ ptB (ptv K2 x false) = true), qb false (ptW K2 (ptv K2 y false) = [0, 0, 0, 0, 0, 0, 0, 0, 0, 0, 0, 0, 0, 0, 0, 0, 0, 0, 0, 0, 0, 0, 0, 0] ∧ ptB (ptv K2 y false) = true), qb true (ptW K2 (ptv K2 x false) = ptW K2 (ptv K2 y false) ∧ ptB (ptv K2 x false) = ptB (ptv K2 y false)), qb false ((seg 12 12 (ptW K2 (ptv K2 x false))) = [0, 0, 0, 0, 0, 0, 0, 0, 0, 0, 0, 0])]) 1 (by kernel_rfl) (hp (nb_) (hp (nb_) (hp (pteq.2 ⟨e1, e2⟩) (hp ((by rw [ry]; exact e3)) trivial)))) (fun v hv => by
      simp only [List.mem_cons, List.not_mem_nil, or_false] at hv
      rcases hv with rfl | rfl
      · exact ⟨hx, trivial, trivial⟩
      · exact ⟨hy, trivial, trivial⟩) (by
        have hs : slF K2 c0 c2 c3 x y = (slTw K2 c2 c3 (wr K2 (seg 0 12 x)) (wr K2 (seg 12 12 x)), true) := (if_pos e1).trans (if_pos ⟨e2, e3⟩)
        obtain ⟨k1, k2⟩ := add_yes K2 h2 h3 h0 (x := x) (y := y) (by rw [hs])
        rw [hs] at k1
        rw [pa_den, ← k1, k2, rx, ry, rx, slTl_ok K2 h2 h3, xsw_r, ysw_r]
        exact p_den) (by simp only [List.map_cons, List.map_nil, p_den])
        · exact fn_outS (N := 9) XB_ok GlobD.keep Tryd.func14 [] (fun s hs => by cases hs) (noSS hG) (args := [.agg [.nums 24 x, .nm (.bl false)], .agg [.nums 24 y, .nm (.bl false)]]) (q := [false, false, false, true]) (v := (PA none)) (obs := [qb false (ptW K2 (ptv K2 x false) = [0, 0, 0, 0, 0, 0, 0, 0, 0, 0, 0, 0, 0, 0, 0, 0, 0, 0, 0, 0, 0, 0, 0, 0] ∧ ptB (ptv K2 x false) = true), qb false (ptW K2 (ptv K2 y false) = [0, 0, 0, 0, 0, 0, 0, 0, 0, 0, 0, 0, 0, 0, 0, 0, 0, 0, 0, 0, 0, 0, 0, 0] ∧ ptB (ptv K2 y false) = true), qb false (ptW K2 (ptv K2 x false) = ptW K2 (ptv K2 y false) ∧ ptB (ptv K2 x false) = ptB (ptv K2 y false)), qb true ((seg 0 12 (ptW K2 (ptv K2 x false))) = (seg 0 12 (ptW K2 (ptv K2 y false))))]) 1 (by kernel_rfl) (hp (nb_) (hp (nb_) (hp (fun h => e2 (pteq.1 h).2) (hp ((by rw [rx, rx]; exact e1)) trivial)))) (fun v hv => by
      simp only [List.mem_cons, List.not_mem_nil, or_false] at hv
      rcases hv with rfl | rfl
      · exact ⟨hx, trivial, trivial⟩
      · exact ⟨hy, trivial, trivial⟩) (by rw [add_no K2 h0 (show (slF K2 c0 c2 c3 x y).2 = false by rw [show slF K2 c0 c2 c3 x y = (List.replicate 12 0, false) from (if_pos e1).trans (if_neg fun h => e2 h.1)])]) (by simp only [List.map_cons, List.map_nil, p_den])
      · exact fn_outS (N := 9) XB_ok GlobD.keep Tryd.func14 [] (fun s hs => by cases hs) (noSS hG) (args := [.agg [.nums 24 x, .nm (.bl false)], .agg [.nums 24 y, .nm (.bl false)]]) (q := [false, false, false, false]) (v := (.agg [.nums 24 (xsw K2 (slCw K2 (seg 0 12 (ptW K2 (ptv K2 x false))) (seg 12 12 (ptW K2 (ptv K2 x false))) (seg 0 12 (ptW K2 (ptv K2 y false))) (seg 12 12 (ptW K2 (ptv K2 y false)))) (seg 0 12 (ptW K2 (ptv K2 x false))) (seg 0 12 (ptW K2 (ptv K2 y false))) ++ ysw K2 (slCw K2 (seg 0 12 (ptW K2 (ptv K2 x false))) (seg 12 12 (ptW K2 (ptv K2 x false))) (seg 0 12 (ptW K2 (ptv K2 y false))) (seg 12 12 (ptW K2 (ptv K2 y false)))) (seg 0 12 (ptW K2 (ptv K2 x false))) (seg 12 12 (ptW K2 (ptv K2 x false))) (xsw K2 (slCw K2 (seg 0 12 (ptW K2 (ptv K2 x false))) (seg 12 12 (ptW K2 (ptv K2 x false))) (seg 0 12 (ptW K2 (ptv K2 y false))) (seg 12 12 (ptW K2 (ptv K2 y false)))) (seg 0 12 (ptW K2 (ptv K2 x false))) (seg 0 12 (ptW K2 (ptv K2 y false))))), .nm (.bl false)])) (obs := [qb false (ptW K2 (ptv K2 x false) = [0, 0, 0, 0, 0, 0, 0, 0, 0, 0, 0, 0, 0, 0, 0, 0, 0, 0, 0, 0, 0, 0, 0, 0] ∧ ptB (ptv K2 x false) = true), qb false (ptW K2 (ptv K2 y false) = [0, 0, 0, 0, 0, 0, 0, 0, 0, 0, 0, 0, 0, 0, 0, 0, 0, 0, 0, 0, 0, 0, 0, 0] ∧ ptB (ptv K2 y false) = true), qb false (ptW K2 (ptv K2 x false) = ptW K2 (ptv K2 y false) ∧ ptB (ptv K2 x false) = ptB (ptv K2 y false)), qb false ((seg 0 12 (ptW K2 (ptv K2 x false))) = (seg 0 12 (ptW K2 (ptv K2 y false))))]) 1 (by kernel_rfl) (hp (nb_) (hp (nb_) (hp (fun h => e1 (pteq.1 h).1) (hp ((by rw [rx, rx]; exact e1)) trivial)))) (fun v hv => by
      simp only [List.mem_cons, List.not_mem_nil, or_false] at hv
      rcases hv with rfl | rfl
      · exact ⟨hx, trivial, trivial⟩
      · exact ⟨hy, trivial, trivial⟩) (by
        have hs : slF K2 c0 c2 c3 x y = (slCw K2 (wr K2 (seg 0 12 x)) (wr K2 (seg 12 12 x)) (wr K2 (seg 0 12 y)) (wr K2 (seg 12 12 y)), true) := if_neg e1
        obtain ⟨k1, k2⟩ := add_yes K2 h2 h3 h0 (x := x) (y := y) (by rw [hs])
        rw [hs] at k1
        rw [pa_den, ← k1, k2, rx, ry, rx, ry, xsw_r, ysw_r]
        exact p_den) (by simp only [List.map_cons, List.map_nil, p_den])
    · exact fn_outS (N := 9) XB_ok GlobD.keep Tryd.func14 [] (fun s hs => by cases hs) (noSS hG) (args := [.agg [.nums 24 x, .nm (.bl false)], .agg [.nums 24 y, .nm (.bl true)]]) (q := [false, true]) (v := (PA (ptv K2 x false))) (obs := [qb false (ptW K2 (ptv K2 x false) = [0, 0, 0, 0, 0, 0, 0, 0, 0, 0, 0, 0, 0, 0, 0, 0, 0, 0, 0, 0, 0, 0, 0, 0] ∧ ptB (ptv K2 x false) = true), qb true (ptW K2 (ptv K2 y true) = [0, 0, 0, 0, 0, 0, 0, 0, 0, 0, 0, 0, 0, 0, 0, 0, 0, 0, 0, 0, 0, 0, 0, 0] ∧ ptB (ptv K2 y true) = true)]) 1 (by kernel_rfl) (hp (nb_) (hp (tb_ _) trivial)) (fun v hv => by
      simp only [List.mem_cons, List.not_mem_nil, or_false] at hv
      rcases hv with rfl | rfl
      · exact ⟨hx, trivial, trivial⟩
      · exact ⟨hy, trivial, trivial⟩) (by rw [ptv_t, ptv_f]; rfl) (by simp only [List.map_cons, List.map_nil, p_den])
  · exact fn_outS (N := 9) XB_ok GlobD.keep Tryd.func14 [] (fun s hs => by cases hs) (noSS hG) (args := [.agg [.nums 24 x, .nm (.bl true)], .agg [.nums 24 y, .nm (.bl c)]]) (q := [true]) (v := (PA (ptv K2 y c))) (obs := [qb true (ptW K2 (ptv K2 x true) = [0, 0, 0, 0, 0, 0, 0, 0, 0, 0, 0, 0, 0, 0, 0, 0, 0, 0, 0, 0, 0, 0, 0, 0] ∧ ptB (ptv K2 x true) = true)]) 1 (by kernel_rfl) (hp (tb_ _) trivial) (fun v hv => by
      simp only [List.mem_cons, List.not_mem_nil, or_false] at hv
      rcases hv with rfl | rfl
      · exact ⟨hx, trivial, trivial⟩
      · exact ⟨hy, trivial, trivial⟩) (by rw [ptv_t]; rfl) (by simp only [List.map_cons, List.map_nil, p_den]))
def ow1 (f : List Int → AV) : List AA → AV
  | [.w l] => f l
  | _ => .unk
theorem conw {P : Program} {G : World → Prop} {F : FuncId} {f : List Int → AV} (h0 : ∀ l, Nm 36 l → ∀ n, (f l).Ok n) (h1 : ∀ l gs, (f l).den gs = (f l).den []) (h : ∀ l, Nm 36 l → ∀ w, G w → Calls P F #[.agg (vals .u64 l)] w fun e w' => e = .returned ((f l).den []) ∧ RowKit.Below w.heap.size w w') : ConG P G F [.w 36] Pre0 (ow1 f) := by
  intro l hl _
  match l, hl with
  | [.w x], ⟨hx, _⟩ =>
    refine ⟨h0 x hx, h1 x, fun w hG vs hv => ?_⟩
    match vs, hv with
    | [v], ⟨hv, _⟩ =>
      obtain rfl := hv
      exact h x hx w hG
set_option maxRecDepth 100000 in
theorem lIs : ConG Tryd.prog GlobD 75 [.w 36] Pre0 (ow1 fun l => .bl (decide (seg 24 12 l = c0))) := conw (fun _ _ _ => trivial) (fun _ _ => rfl) (fun l hl w hG => by
  by_cases e : seg 24 12 l = c0
  · exact fn_outS (N := 9) XA_ok GlobD.keep Tryd.func75 [] (fun s hs => by cases hs) (noSS hG) (args := [.agg [.nums 36 l]]) (q := [true]) (v := (.bl true)) (obs := [qb true (seg 24 12 l = [0, 0, 0, 0, 0, 0, 0, 0, 0, 0, 0, 0])]) 1 (by kernel_rfl) (hp (e) trivial) (fun v hv => by
      simp only [List.mem_cons, List.not_mem_nil, or_false] at hv
      obtain rfl := hv
      exact ⟨hl, trivial⟩) (by rw [decide_eq_true e]) (by simp only [List.map_cons, List.map_nil, l_den])
  · exact fn_outS (N := 9) XA_ok GlobD.keep Tryd.func75 [] (fun s hs => by cases hs) (noSS hG) (args := [.agg [.nums 36 l]]) (q := [false]) (v := (.bl false)) (obs := [qb false (seg 24 12 l = [0, 0, 0, 0, 0, 0, 0, 0, 0, 0, 0, 0])]) 1 (by kernel_rfl) (hp (e) trivial) (fun v hv => by
      simp only [List.mem_cons, List.not_mem_nil, or_false] at hv
      obtain rfl := hv
      exact ⟨hl, trivial⟩) (by rw [decide_eq_false e]) (by simp only [List.map_cons, List.map_nil, l_den]))
def T3 : List (FuncId × Ent2) := [(75, entG [.w 36] Pre0 (ow1 fun l => .bl (decide (seg 24 12 l = c0))))]
theorem T3_ok : TOk2 Tryd.prog GlobD T3 := ⟨.conG Tryd.func75 rfl (by decide) lIs, trivial⟩
def XC : Cx := ((Cx.of [(27, 12)] (tb L3)).eqs [(29, 24)]).more T3
theorem XC_ok : CxOk Tryd.prog XC GlobD := ((cx_ok (E := [(27, 12)]) L3 ⟨⟨G2K.eqF, G2K.gdF⟩, trivial⟩ (by kernel_rfl)).eqs (EM := [(29, 24)]) ⟨⟨eqG, gdG⟩, trivial⟩).more T3_ok
theorem nm_dbF {l : List Int} (h : Nm 36 l) : Nm 36 (dbF K2 c0 l) := by
  unfold dbF
  split
  · exact h
  · exact nm_dbR K2 _ _ _
theorem nm_psF {l q : List Int} (h : Nm 36 l) (hq : Nm 24 q) : Nm 36 (psF K2 c0 c1 l q) := by
  unfold psF
  split
  · rw [show seg 0 K2.n q ++ seg K2.n K2.n q = q from (seg_all (n := 12) (m := 12) hq.len).symm]
    exact hq.app nm_c1
  · split
    · exact nm_dbF h
    · exact nm_psR K2 _ _ _ _ _
set_option maxRecDepth 100000 in
theorem lDb : ConG Tryd.prog GlobD 73 [.w 36] Pre0 (ow1 fun l => .agg [.nums 36 (dbF K2 c0 l)]) := conw (fun l h n => ⟨nm_dbF h, trivial⟩) (fun _ _ => rfl) (fun l hl w hG => by
  by_cases e : seg 24 12 l = c0
  · exact fn_outS (N := 9) XC_ok GlobD.keep Tryd.func73 [] (fun s hs => by cases hs) (noSS hG) (args := [.agg [.nums 36 l]]) (q := [true]) (v := (.agg [.nums 36 (l)])) (obs := [decide (seg 24 12 l = c0) = true]) 1 (by kernel_rfl) (hp (decide_eq_true e) trivial) (fun v hv => by
      simp only [List.mem_cons, List.not_mem_nil, or_false] at hv
      obtain rfl := hv
      exact ⟨hl, trivial⟩) (by rw [show dbF K2 c0 l = l from if_pos e]) (by simp only [List.map_cons, List.map_nil, l_den])
  · exact fn_outS (N := 9) XC_ok GlobD.keep Tryd.func73 [] (fun s hs => by cases hs) (noSS hG) (args := [.agg [.nums 36 l]]) (q := [false]) (v := (.agg [.nums 36 (dbR K2 (seg 0 12 l) (seg 12 12 l) (seg 24 12 l))])) (obs := [decide (seg 24 12 l = c0) = false]) 1 (by kernel_rfl) (hp (decide_eq_false e) trivial) (fun v hv => by
      simp only [List.mem_cons, List.not_mem_nil, or_false] at hv
      obtain rfl := hv
      exact ⟨hl, trivial⟩) (by rw [show dbF K2 c0 l = dbR K2 (seg 0 12 l) (seg 12 12 l) (seg 24 12 l) from if_neg e]) (by simp only [List.map_cons, List.map_nil, l_den]))
def T4 : List (FuncId × Ent2) := [(73, entG [.w 36] Pre0 (ow1 fun l => .agg [.nums 36 (dbF K2 c0 l)])), (75, entG [.w 36] Pre0 (ow1 fun l => .bl (decide (seg 24 12 l = c0))))]
theorem T4_ok : TOk2 Tryd.prog GlobD T4 := ⟨.conG Tryd.func73 rfl (by decide) lDb, .conG Tryd.func75 rfl (by decide) lIs, trivial⟩
def XD : Cx := ((Cx.of [(27, 12)] (tb L3)).eqs [(29, 24)]).more T4
theorem XD_ok : CxOk Tryd.prog XD GlobD := ((cx_ok (E := [(27, 12)]) L3 ⟨⟨G2K.eqF, G2K.gdF⟩, trivial⟩ (by kernel_rfl)).eqs (EM := [(29, 24)]) ⟨⟨eqG, gdG⟩, trivial⟩).more T4_ok
theorem conwq {P : Program} {G : World → Prop} {F : FuncId} {f : List Int → List Int → AV} (h0 : ∀ l, Nm 36 l → ∀ q, Nm 24 q → ∀ n, (f l q).Ok n) (h1 : ∀ l q gs, (f l q).den gs = (f l q).den []) (h : ∀ l, Nm 36 l → ∀ q, Nm 24 q → ∀ w, G w → Calls P F #[.agg (vals .u64 l), .agg (vals .u64 q ++ #[.bool false])] w fun e w' => e = .returned ((f l q).den []) ∧ RowKit.Below w.heap.size w w') : ConG P G F [.w 36, .p 24] PreF1 (owp f) := by
  intro l hl hp
  match l, hl, hp with
  | [.w x, .p q c], ⟨hx, hy, _⟩, hp =>
    obtain ⟨rfl, _⟩ := hp
    refine ⟨h0 x hx q hy, h1 x q, fun w hG vs hv => ?_⟩
    match vs, hv with
    | [v, u], ⟨hv, hu, _⟩ =>
      obtain rfl := hv
      obtain rfl := hu
      exact h x hx q hy w hG
set_option maxRecDepth 100000 in
theorem lPs : ConG Tryd.prog GlobD 74 [.w 36, .p 24] PreF1 (owp fun l q => .agg [.nums 36 (psF K2 c0 c1 l q)]) := conwq (fun l h q hq n => ⟨nm_psF h hq, trivial⟩) (fun _ _ _ => rfl) (fun l hl q hq w hG => by
  by_cases e1 : seg 24 12 l = c0
  · exact fn_outS (N := 9) XD_ok GlobD.keep Tryd.func74 [] (fun s hs => by cases hs) (noSS hG) (args := [.agg [.nums 36 l], .agg [.nums 24 q, .nm (.bl false)]]) (q := [true]) (v := (.agg [.nums 36 (seg 0 12 q ++ seg 12 12 q ++ [1] ++ [0, 0, 0, 0, 0] ++ [0, 0, 0, 0, 0, 0])])) (obs := [decide (seg 24 12 l = c0) = true]) 1 (by kernel_rfl) (hp (decide_eq_true e1) trivial) (fun v hv => by
      simp only [List.mem_cons, List.not_mem_nil, or_false] at hv
      rcases hv with rfl | rfl
      · exact ⟨hl, trivial⟩
      · exact ⟨hq, trivial, trivial⟩) (by rw [show psF K2 c0 c1 l q = seg 0 12 q ++ seg 12 12 q ++ c1 from if_pos e1, List.append_assoc _ [1], List.append_assoc _ ([1] ++ _)]; rfl) (by simp only [List.map_cons, List.map_nil, p_den, l_den])
  · by_cases e2 : hW K2 (seg 0 12 l) (seg 24 12 l) (seg 0 12 q) = c0
    · by_cases e3 : rW K2 (seg 12 12 l) (seg 24 12 l) (seg 12 12 q) = c0
      · exact fn_outS (N := 9) XD_ok GlobD.keep Tryd.func74 [] (fun s hs => by cases hs) (noSS hG) (args := [.agg [.nums 36 l], .agg [.nums 24 q, .nm (.bl false)]]) (q := [false, true, true]) (v := (.agg [.nums 36 (dbF K2 c0 l)])) (obs := [decide (seg 24 12 l = c0) = false, qb true (hW K2 (seg 0 12 l) (seg 24 12 l) (seg 0 12 q) = [0, 0, 0, 0, 0, 0, 0, 0, 0, 0, 0, 0]), qb true (rW K2 (seg 12 12 l) (seg 24 12 l) (seg 12 12 q) = [0, 0, 0, 0, 0, 0, 0, 0, 0, 0, 0, 0])]) 1 (by kernel_rfl) (hp (decide_eq_false e1) (hp (e2) (hp (e3) trivial))) (fun v hv => by
      simp only [List.mem_cons, List.not_mem_nil, or_false] at hv
      rcases hv with rfl | rfl
      · exact ⟨hl, trivial⟩
      · exact ⟨hq, trivial, trivial⟩) (by rw [show psF K2 c0 c1 l q = dbF K2 c0 l from (if_neg e1).trans (if_pos ⟨e2, e3⟩)]) (by simp only [List.map_cons, List.map_nil, p_den, l_den])
      · exact fn_outS (N := 9) XD_ok GlobD.keep Tryd.func74 [] (fun s hs => by cases hs) (noSS hG) (args := [.agg [.nums 36 l], .agg [.nums 24 q, .nm (.bl false)]]) (q := [false, true, false]) (v := (.agg [.nums 36 (psR K2 (seg 0 12 l) (seg 12 12 l) (seg 24 12 l) (seg 0 12 q) (seg 12 12 q))])) (obs := [decide (seg 24 12 l = c0) = false, qb true (hW K2 (seg 0 12 l) (seg 24 12 l) (seg 0 12 q) = [0, 0, 0, 0, 0, 0, 0, 0, 0, 0, 0, 0]), qb false (rW K2 (seg 12 12 l) (seg 24 12 l) (seg 12 12 q) = [0, 0, 0, 0, 0, 0, 0, 0, 0, 0, 0, 0])]) 1 (by kernel_rfl) (hp (decide_eq_false e1) (hp (e2) (hp (e3) trivial))) (fun v hv => by
      simp only [List.mem_cons, List.not_mem_nil, or_false] at hv
      rcases hv with rfl | rfl
      · exact ⟨hl, trivial⟩
      · exact ⟨hq, trivial, trivial⟩) (by rw [show psF K2 c0 c1 l q = psR K2 (seg 0 12 l) (seg 12 12 l) (seg 24 12 l) (seg 0 12 q) (seg 12 12 q) from (if_neg e1).trans (if_neg fun h => e3 h.2)]) (by simp only [List.map_cons, List.map_nil, p_den, l_den])
    · exact fn_outS (N := 9) XD_ok GlobD.keep Tryd.func74 [] (fun s hs => by cases hs) (noSS hG) (args := [.agg [.nums 36 l], .agg [.nums 24 q, .nm (.bl false)]]) (q := [false, false]) (v := (.agg [.nums 36 (psR K2 (seg 0 12 l) (seg 12 12 l) (seg 24 12 l) (seg 0 12 q) (seg 12 12 q))])) (obs := [decide (seg 24 12 l = c0) = false, qb false (hW K2 (seg 0 12 l) (seg 24 12 l) (seg 0 12 q) = [0, 0, 0, 0, 0, 0, 0, 0, 0, 0, 0, 0])]) 1 (by kernel_rfl) (hp (decide_eq_false e1) (hp (e2) trivial)) (fun v hv => by
      simp only [List.mem_cons, List.not_mem_nil, or_false] at hv
      rcases hv with rfl | rfl
      · exact ⟨hl, trivial⟩
      · exact ⟨hq, trivial, trivial⟩) (by rw [show psF K2 c0 c1 l q = psR K2 (seg 0 12 l) (seg 12 12 l) (seg 24 12 l) (seg 0 12 q) (seg 12 12 q) from (if_neg e1).trans (if_neg fun h => e2 h.1)]) (by simp only [List.map_cons, List.map_nil, p_den, l_den]))
/-- A fraction's point. -/
def pnW (l : List Int) : List Int := if seg 24 12 l = c0 then List.replicate 24 0 else nmW K2 (seg 0 12 l) (seg 12 12 l) (seg 24 12 l)
def pnB (l : List Int) : Bool := decide (seg 24 12 l = c0)
theorem nm_pnW (l : List Int) : Nm 24 (pnW l) := by
  unfold pnW
  split
  · exact ⟨rfl, words_zeros 24⟩
  · exact (K2.wo_nm _).app (K2.wo_nm _)
def PN (l : List Int) : AV := .agg [.nums 24 (pnW l), .nm (.bl (pnB l))]
theorem pn_den (l : List Int) (gs : List Nat) : (PN l).den gs = .agg (vals .u64 (pnW l) ++ #[.bool (pnB l)]) := by simp [PN, AV.den, den, Sg.den, NV.den, vals]
set_option maxRecDepth 100000 in
theorem lPt : ConG Tryd.prog GlobD 46 [.w 36] Pre0 (ow1 PN) := conw (fun l _ n => ⟨nm_pnW l, trivial, trivial⟩) (fun l gs => by rw [pn_den, pn_den]) (fun l hl w hG => by
  by_cases e : seg 24 12 l = c0
  · exact fn_outS (N := 9) XC_ok GlobD.keep Tryd.func46 [] (fun s hs => by cases hs) (noSS hG) (args := [.agg [.nums 36 l]]) (q := [true]) (v := (PA none)) (obs := [decide (seg 24 12 l = c0) = true]) 1 (by kernel_rfl) (hp (decide_eq_true e) trivial) (fun v hv => by
      simp only [List.mem_cons, List.not_mem_nil, or_false] at hv
      obtain rfl := hv
      exact ⟨hl, trivial⟩) (by rw [pn_den, pa_den, pnW, pnB, if_pos e, decide_eq_true e]; rfl) (by simp only [List.map_cons, List.map_nil, l_den])
  · exact fn_outS (N := 9) XC_ok GlobD.keep Tryd.func46 [] (fun s hs => by cases hs) (noSS hG) (args := [.agg [.nums 36 l]]) (q := [false]) (v := (.agg [.nums 24 (nmW K2 (seg 0 12 l) (seg 12 12 l) (seg 24 12 l)), .nm (.bl false)])) (obs := [decide (seg 24 12 l = c0) = false]) 1 (by kernel_rfl) (hp (decide_eq_false e) trivial) (fun v hv => by
      simp only [List.mem_cons, List.not_mem_nil, or_false] at hv
      obtain rfl := hv
      exact ⟨hl, trivial⟩) (by rw [pn_den, pnW, pnB, if_neg e, decide_eq_false e]; exact p_den) (by simp only [List.map_cons, List.map_nil, l_den]))
def T5o : List (FuncId × Ent2) := [(74, entG [.w 36, .p 24] PreF1 (owp fun l q => .agg [.nums 36 (psF K2 c0 c1 l q)])), (73, entG [.w 36] Pre0 (ow1 fun l => .agg [.nums 36 (dbF K2 c0 l)]))]
theorem T5o_ok : TOk2 Tryd.prog GlobD T5o := ⟨.conG Tryd.func74 rfl (by decide) lPs, .conG Tryd.func73 rfl (by decide) lDb, trivial⟩
def XE : Cx := ((Cx.of [(27, 12)] (tb L3)).eqs [(29, 24)]).more T5o
theorem XE_ok : CxOk Tryd.prog XE GlobD := ((cx_ok (E := [(27, 12)]) L3 ⟨⟨G2K.eqF, G2K.gdF⟩, trivial⟩ (by kernel_rfl)).eqs (EM := [(29, 24)]) ⟨⟨eqG, gdG⟩, trivial⟩).more T5o_ok
abbrev db_ (l : List Int) : List Int := dbF K2 c0 l
abbrev ps_ (x l : List Int) : List Int := psF K2 c0 c1 l x
section
variable (x o : List Int) (A : Option Addr) (n c : Nat) (l : List Int)
def b3 : List Bk := [(29, [.nums 24 x, .nm (.bl false)]), (60, [.nums 36 (List.replicate 36 (0 : Int))]), (60, [.nums 36 o])]
def m1 (k : Nat) : St := ⟨mkSl 34 [(0, .ext A n c l), (3, .ptr 0 0), (4, .ptr 1 0), (5, .ptr 2 0), (6, .num .i64 (64 * (n : Int) - 1 - k))], b3 x o⟩
def m1e : St := ⟨mkSl 34 [(4, .ptr 1 0), (5, .ptr 2 0)], b3 x o⟩
end
abbrev XM (A : Option Addr) (n : Nat) (l : List Int) (H : List (Nat × Ev)) : Cx := XE.sym (DM A n l) H
theorem XM_ok {A : Option Addr} {n : Nat} {l : List Int} {B : Nat} (hw : Words l) (H : List (Nat × Ev)) : CxB Tryd.prog (XM A n l H) (GM A n l B) :=
  XE_ok.toCxB.sym (fun u h => h.1.1) (fun A' n' l' h => by
    obtain ⟨rfl, rfl, rfl⟩ := h
    exact ⟨hw, B, fun u hu => ⟨hu.1.2, hu.2⟩⟩) H
section
variable {x o o' : List Int} {A : Option Addr} {n c : Nat} {l : List Int} {B S : Nat} {w : World}
theorem does (hw : Words l) (hG : ∀ u, RowKit.Below S w u → GM A n l B u) (c : Code) : Does Tryd.prog S 0 w c (evalC Tryd.prog (XM A n l []) 0 9 c) := code_ok (XM_ok hw []) hG c (fun _ _ _ h => by rw [hooked_nil] at h; cases h)
set_option maxRecDepth 100000 in
theorem rndf {k : Nat} (hk : k < 64 * n) (hn : n ≤ 10000) (h2 : qb false (wd_ n l k % 2 = 1)) (hrow : db_ o = o') (hw : Words l) (hG : ∀ u, RowKit.Below S w u → GM A n l B u) : Goes Tryd.prog S 0 w (lpc Tryd.f45 0) (m1 x o A n c l k) .nrm (m1 x o' A n c l (k + 1)) := by
  have hd := wd_in (n := n) hw k
  exact (does hw hG _).goes [false, false] (ps := [A = A ∧ n = n ∧ c = c ∧ l = l, 64 * (n : Int) - 1 - k - 1 = 64 * (n : Int) - 1 - ((k + 1 : Nat) : Int), [Sg.nums 24 x, .nm (.bl false)] = [Sg.nums 24 x, .nm (.bl false)], (List.replicate 36 (0 : Int)) = (List.replicate 36 (0 : Int)), db_ o = o', qb false (ji n k < 0), 0 ≤ ji n k ∧ (0 : Int) < 64, IntKind.i64.wrap (ji n k / 64) = ji n k / 64, 0 ≤ ji n k / 64 ∧ ji n k / 64 < (n : Int), DM A n l A (n * 1) l ∧ 0 < 1, (ji n k / 64).toNat * 1 < n * 1, DM A n l A (n * 1) l ∧ 0 < n * 1, 0 ≤ ji n k ∧ (0 : Int) < 64, rng .i64 (ji n k % 64), 0 ≤ ji n k % 64 ∧ ji n k % 64 < ((64 : Nat) : Int), rng .u64 (wd_ n l k), 0 ≤ wd_ n l k ∧ (0 : Int) < 2, rng .u64 (wd_ n l k % 2), qb false (wd_ n l k % 2 = 1), IntKind.i64.wrap (64 * (n : Int) - 1 - k - 1) = 64 * (n : Int) - 1 - k - 1]) (by kernel_rfl) (hp (⟨rfl, rfl, rfl, rfl⟩) (hp (by omega) (hp (rfl) (hp (rfl) (hp (hrow) (hp ((by simp only [ji]; omega : ¬ ji n k < 0)) (hp (by simp only [ji]; omega) (hp (IntWalk.i64_in _ (by simp only [ji]; omega)) (hp (by simp only [ji]; omega) (hp (⟨⟨rfl, Nat.mul_one _, rfl⟩, by decide⟩) (hp (by simp only [ji]; omega) (hp (⟨⟨rfl, Nat.mul_one _, rfl⟩, by omega⟩) (hp (by simp only [ji]; omega) (hp (trivial) (hp (by simp only [ji]; omega) (hp ((by omega : 0 ≤ wd_ n l k ∧ wd_ n l k < 18446744073709551616)) (hp (by omega) (hp ((by omega : 0 ≤ wd_ n l k % 2 ∧ wd_ n l k % 2 < 18446744073709551616)) (hp (h2) (hp (IntWalk.i64_in _ (by omega)) trivial)))))))))))))))))))) (by kernel_rfl)
set_option maxRecDepth 100000 in
theorem rndt {k : Nat} (hk : k < 64 * n) (hn : n ≤ 10000) (h2 : qb true (wd_ n l k % 2 = 1)) (hrow : ps_ x (db_ o) = o') (hw : Words l) (hG : ∀ u, RowKit.Below S w u → GM A n l B u) : Goes Tryd.prog S 0 w (lpc Tryd.f45 0) (m1 x o A n c l k) .nrm (m1 x o' A n c l (k + 1)) := by
  have hd := wd_in (n := n) hw k
  exact (does hw hG _).goes [false, true] (ps := [A = A ∧ n = n ∧ c = c ∧ l = l, 64 * (n : Int) - 1 - k - 1 = 64 * (n : Int) - 1 - ((k + 1 : Nat) : Int), [Sg.nums 24 x, .nm (.bl false)] = [Sg.nums 24 x, .nm (.bl false)], (List.replicate 36 (0 : Int)) = (List.replicate 36 (0 : Int)), ps_ x (db_ o) = o', qb false (ji n k < 0), 0 ≤ ji n k ∧ (0 : Int) < 64, IntKind.i64.wrap (ji n k / 64) = ji n k / 64, 0 ≤ ji n k / 64 ∧ ji n k / 64 < (n : Int), DM A n l A (n * 1) l ∧ 0 < 1, (ji n k / 64).toNat * 1 < n * 1, DM A n l A (n * 1) l ∧ 0 < n * 1, 0 ≤ ji n k ∧ (0 : Int) < 64, rng .i64 (ji n k % 64), 0 ≤ ji n k % 64 ∧ ji n k % 64 < ((64 : Nat) : Int), rng .u64 (wd_ n l k), 0 ≤ wd_ n l k ∧ (0 : Int) < 2, rng .u64 (wd_ n l k % 2), qb true (wd_ n l k % 2 = 1), false = false, IntKind.i64.wrap (64 * (n : Int) - 1 - k - 1) = 64 * (n : Int) - 1 - k - 1]) (by kernel_rfl) (hp (⟨rfl, rfl, rfl, rfl⟩) (hp (by omega) (hp (rfl) (hp (rfl) (hp (hrow) (hp ((by simp only [ji]; omega : ¬ ji n k < 0)) (hp (by simp only [ji]; omega) (hp (IntWalk.i64_in _ (by simp only [ji]; omega)) (hp (by simp only [ji]; omega) (hp (⟨⟨rfl, Nat.mul_one _, rfl⟩, by decide⟩) (hp (by simp only [ji]; omega) (hp (⟨⟨rfl, Nat.mul_one _, rfl⟩, by omega⟩) (hp (by simp only [ji]; omega) (hp (trivial) (hp (by simp only [ji]; omega) (hp ((by omega : 0 ≤ wd_ n l k ∧ wd_ n l k < 18446744073709551616)) (hp (by omega) (hp ((by omega : 0 ≤ wd_ n l k % 2 ∧ wd_ n l k % 2 < 18446744073709551616)) (hp (h2) (hp (rfl) (hp (IntWalk.i64_in _ (by omega)) trivial))))))))))))))))))))) (by kernel_rfl)
set_option maxRecDepth 100000 in
theorem end_ (hw : Words l) (hG : ∀ u, RowKit.Below S w u → GM A n l B u) : Goes Tryd.prog S 0 w (lpc Tryd.f45 0) (m1 x o A n c l (64 * n)) (.ext 0) (m1e x o) :=
  (does hw hG _).goes [true] (ps := [[Sg.nums 24 x, .nm (.bl false)] = [Sg.nums 24 x, .nm (.bl false)], (List.replicate 36 (0 : Int)) = (List.replicate 36 (0 : Int)), o = o, qb true (ji n (64 * n) < 0)]) (by kernel_rfl) (hp (rfl) (hp (rfl) (hp (rfl) (hp ((by simp only [ji]; omega : ji n (64 * n) < 0)) trivial)))) (by kernel_rfl)
/-- The fraction behind so many rounds. -/
def jl (x : List Int) (n : Nat) (l : List Int) : Nat → List Int
  | 0 => List.replicate 36 0
  | k + 1 => if wd_ n l k % 2 = 1 then ps_ x (db_ (jl x n l k)) else db_ (jl x n l k)
theorem loop (hn : n ≤ 10000) (hw : Words l) (hG : ∀ u, RowKit.Below S w u → GM A n l B u) : Goes Tryd.prog S 0 w (.block 0 (.loop (lpc Tryd.f45 0))) (m1 x (jl x n l 0) A n c l 0) .nrm (m1e x (jl x n l (64 * n))) := by
  refine .loop (n := 64 * n) (fun k => m1 x (jl x n l k) A n c l k) (fun k hk => ?_) (end_ hw hG)
  by_cases hb : wd_ n l k % 2 = 1
  · exact rndt hk hn hb (by rw [jl, if_pos hb]) hw hG
  · exact rndf hk hn hb (by rw [jl, if_neg hb]) hw hG
theorem nm_jl (hx : Nm 24 x) : ∀ k, Nm 36 (jl x n l k)
  | 0 => ⟨rfl, words_zeros 36⟩
  | k + 1 => by
    rw [jl]
    split
    · exact nm_psF (nm_dbF (nm_jl hx k)) hx
    · exact nm_dbF (nm_jl hx k)
theorem jl_ok (hx : Nm 24 x) (hw : Words l) (hl : l.length = n) (on : OnP K2.F bb (ptv K2 x false)) : ∀ k, k ≤ 64 * n → ∃ C, Mult K2.F (ey n l k) (ptv K2 x false) C ∧ RepV K2 (jl x n l k) C
  | 0, _ => ⟨none, by rw [ey_0 hw hl]; trivial, repV_none K2 h0 hz⟩
  | k + 1, hk => by
    obtain ⟨C, hC, hR⟩ := jl_ok hx hw hl on k (by omega)
    obtain ⟨D, hD, hE⟩ := rd_two K2 h0 four_ne on hC hR
    have hd := wd_in (n := n) hw k
    have hm := ey_more (by omega : k < 64 * n) hw
    rw [jl]
    by_cases hb : wd_ n l k % 2 = 1
    · rw [if_pos hb]
      obtain ⟨E, e1, e2⟩ := rd_one K2 h0 h1 hx on hD hE
      exact ⟨E, by rw [hm, hb, show 2 * ey n l k + (1 : Int).toNat = ey n l k + ey n l k + 1 by omega]; exact e1, e2⟩
    · rw [if_neg hb]
      exact ⟨D, by rw [hm, show wd_ n l k % 2 = 0 by omega, show 2 * ey n l k + (0 : Int).toNat = ey n l k + ey n l k by omega]; exact hD, hE⟩
end
theorem blk0 : blkc Tryd.f45 0 = .loop (lpc Tryd.f45 0) := by kernel_rfl
abbrev PreSF : List AA → List Ob
  | [.sl _ _, .p _ b] => [b = false]
  | _ => []
def osp (f : List Int → List Int → AV) : List AA → AV
  | [.sl _ l, .p x _] => f l x
  | _ => .unk
theorem consp {P : Program} {G : World → Prop} {F : FuncId} {f : List Int → List Int → AV} (h0 : ∀ l x, Nm 24 x → ∀ n, (f l x).Ok n) (h1 : ∀ l x gs, (f l x).den gs = (f l x).den []) (h : ∀ x, Nm 24 x → ∀ A n c l B w, G w → Rd w B A n .u64 l → Words l → B ≤ w.heap.size → n ≤ 10000 → Calls P F #[.slice A n c, .agg (vals .u64 x ++ #[.bool false])] w fun e w' => e = .returned ((f l x).den []) ∧ RowKit.Below w.heap.size w w') : ConG P G F [.sl, .p 24] PreSF (osp f) := by
  intro l hl hp
  match l, hl, hp with
  | [.sl n l, .p x b], ⟨⟨hn, hl⟩, hx, _⟩, hp =>
    obtain ⟨rfl, _⟩ := hp
    refine ⟨h0 l x hx, h1 l x, fun w hG vs hv => ?_⟩
    match vs, hv with
    | [v, u], ⟨⟨A, c, hv, B, hB, hr⟩, hu, _⟩ =>
      obtain rfl := hv
      obtain rfl := hu
      exact h x hx A n c l B w hG hr hl.words hB hn
set_option maxRecDepth 100000 in
theorem times_ (x : List Int) (hx : Nm 24 x) (A : Option Addr) (n c : Nat) (l : List Int) (B : Nat) (w : World) (hG0 : GlobD w) (hr : Rd w B A n .u64 l) (hw : Words l) (hB : B ≤ w.heap.size) (hn : n ≤ 10000) : Calls Tryd.prog 45 #[.slice A n c, .agg (vals .u64 x ++ #[.bool false])] w fun e w' => e = .returned ((AV.agg [.nums 36 (jl x n l (64 * n))]).den []) ∧ RowKit.Below w.heap.size w w' := by
  have hG : ∀ u, RowKit.Below w.heap.size w u → GM A n l B u := fun u hu => GM.keep ⟨⟨hG0, hB⟩, hr⟩ hu
  have hk : AllH Tryd.prog w.heap.size 0 w [(0, blkc Tryd.f45 0, hookEv (m1 x (jl x n l 0) A n c l 0) (m1e x (jl x n l (64 * n))))] := ⟨by rw [blk0]; exact (loop hn hw hG).does (by kernel_rfl), trivial⟩
  exact fn_outK (N := 9) (XM_ok (B := B) hw [(0, hookEv (m1 x (jl x n l 0) A n c l 0) (m1e x (jl x n l (64 * n))))]) (fn_hooks (by kernel_rfl) hk) Tryd.func45 hG (args := [.ext A n c l, .agg [.nums 24 x, .nm (.bl false)]]) (q := []) (v := .agg [.nums 36 (jl x n l (64 * n))]) (obs := [IntKind.i64.wrap ((n : Int) * 64) = (n : Int) * 64, IntKind.i64.wrap ((n : Int) * 64 - 1) = (n : Int) * 64 - 1, A = A ∧ n = n ∧ c = c ∧ l = l, (n : Int) * 64 - 1 = 64 * (n : Int) - 1 - ((0 : Nat) : Int), [Sg.nums 24 x, .nm (.bl false)] = [Sg.nums 24 x, .nm (.bl false)], (List.replicate 36 (0 : Int)) = (List.replicate 36 (0 : Int)), List.replicate 36 0 = jl x n l 0]) 1 (by kernel_rfl) (hp (IntWalk.i64_in _ (by omega)) (hp (IntWalk.i64_in _ (by omega)) (hp (⟨rfl, rfl, rfl, rfl⟩) (hp (by omega) (hp (rfl) (hp (rfl) (hp (rfl) trivial))))))) (fun v hv => by
      simp only [List.mem_cons, List.not_mem_nil, or_false] at hv
      rcases hv with rfl | rfl
      · trivial
      · exact ⟨hx, trivial, trivial⟩) rfl (by simp only [List.map_cons, List.map_nil, p_den]; rfl)
theorem lTimes : ConG Tryd.prog GlobD 45 [.sl, .p 24] PreSF (osp (fun l x => .agg [.nums 36 (jl x l.length l (64 * l.length))])) := consp (fun l x hx n => ⟨nm_jl hx _, trivial⟩) (fun _ _ _ => rfl) (fun x hx A n c l B w hG0 hr hw hB hn => by
  have h := times_ x hx A n c l B w hG0 hr hw hB hn
  rw [← hr.len] at h
  rw [← hr.len]
  exact h)
def T6o : List (FuncId × Ent2) := [(45, entG [.sl, .p 24] PreSF (osp (fun l x => .agg [.nums 36 (jl x l.length l (64 * l.length))]))), (46, entG [.w 36] Pre0 (ow1 PN)), (20, entG [.p 24] Pre0 (o1 fun x b => .bl (onB K2 bb (ptv K2 x b))))]
theorem T6o_ok : TOk2 Tryd.prog GlobD T6o := ⟨.conG Tryd.func45 rfl (by decide) lTimes, .conG Tryd.func46 rfl (by decide) lPt, .conG Tryd.func20 rfl (by decide) lOn, trivial⟩
def XF : Cx := ((Cx.of [(27, 12)] (tb L3)).eqs [(29, 24)]).more T6o
theorem XF_ok : CxOk Tryd.prog XF GlobD := ((cx_ok (E := [(27, 12)]) L3 ⟨⟨G2K.eqF, G2K.gdF⟩, trivial⟩ (by kernel_rfl)).eqs (EM := [(29, 24)]) ⟨⟨eqG, gdG⟩, trivial⟩).more T6o_ok
theorem pn_ok {x l : List Int} (hx : Nm 24 x) (hw : Words l) (hon : onB K2 bb (ptv K2 x false) = true) : pnW (jl x l.length l (64 * l.length)) = ptW K2 (mulO K2 bb (num l).toNat (ptv K2 x false)) ∧ pnB (jl x l.length l (64 * l.length)) = ptB (mulO K2 bb (num l).toNat (ptv K2 x false)) := by
  have on := (onB_iff K2).1 hon
  obtain ⟨C, hC, hR⟩ := jl_ok hx hw rfl on (64 * l.length) (Nat.le_refl _)
  rw [ey_n] at hC
  rw [mulO, if_pos hon]
  by_cases e : seg 24 12 (jl x l.length l (64 * l.length)) = c0
  · obtain ⟨f1, f2⟩ := fn_z K2 h0 on hC hR e
    rw [pnW, pnB, if_pos e, decide_eq_true e, f1, f2]
    exact ⟨rfl, rfl⟩
  · obtain ⟨f1, f2⟩ := fn_n K2 h0 on hC hR e
    rw [pnW, pnB, if_neg e, decide_eq_false e, f1, f2]
    exact ⟨rfl, rfl⟩
theorem mulA_none (m : Nat) (x : List Int) : (AV.tup [.agg [.nums 24 (ptW K2 none), .nm (.bl true)], .num .i64 0]).den [] = (mulA m x true).den [] := by
  have f1 := out_eq K2 (mulP_none K2 m)
  rw [mulA, mulO, ptv_t, if_pos (by rfl), if_pos (by rfl), ← f1.1, ← f1.2]
  rfl
set_option maxRecDepth 100000 in
theorem lMul : ConG Tryd.prog GlobD 22 [.sl, .p 24] Pre0 (oM mulA) := conM mulA_ok (fun _ _ _ _ => rfl) (fun x hx b A n c l B w hG hr hw hB hn => by
  cases b
  · cases hon : onB K2 bb (ptv K2 x false)
    · exact fn_outS (N := 9) XF_ok GlobD.keep Tryd.func22 [(A, n, l, B)] (fun s hs => by obtain rfl := List.mem_singleton.1 hs; exact hw) ⟨hG, fun s hs => by obtain rfl := List.mem_singleton.1 hs; exact ⟨hB, hr⟩⟩ (args := [.ext A n c l, .agg [.nums 24 x, .nm (.bl false)]]) (q := [false]) (v := (.tup [.agg [.nums 24 (List.replicate 24 0), .nm (.bl false)], .num .i64 120])) (obs := [onB K2 bb (ptv K2 x false) = false]) 1 (by kernel_rfl) (hp (hon) trivial) (fun v hv => by
      simp only [List.mem_cons, List.not_mem_nil, or_false] at hv
      rcases hv with rfl | rfl
      · trivial
      · exact ⟨hx, trivial, trivial⟩) (by rw [mulA, mulO, if_neg (by rw [hon]; decide), if_neg (by rw [hon]; decide), show ptW K2 (some (K2.F.int 0, K2.F.int 0)) = List.replicate 24 0 by rw [ptW, h0]; rfl]; rfl) (by simp only [List.map_cons, List.map_nil, p_den]; rfl)
    · exact fn_outS (N := 9) XF_ok GlobD.keep Tryd.func22 [(A, n, l, B)] (fun s hs => by obtain rfl := List.mem_singleton.1 hs; exact hw) ⟨hG, fun s hs => by obtain rfl := List.mem_singleton.1 hs; exact ⟨hB, hr⟩⟩ (args := [.ext A n c l, .agg [.nums 24 x, .nm (.bl false)]]) (q := [true, false]) (v := (.tup [.agg [.nums 24 (pnW (jl x l.length l (64 * l.length))), .nm (.bl (pnB (jl x l.length l (64 * l.length))))], .num .i64 0])) (obs := [onB K2 bb (ptv K2 x false) = true, false = false, DS [(A, n, l, B)] A n l, n ≤ 10000, false = false]) 1 (by kernel_rfl) (hp (hon) (hp (rfl) (hp (⟨B, by simp⟩) (hp (hn) (hp (rfl) trivial))))) (fun v hv => by
      simp only [List.mem_cons, List.not_mem_nil, or_false] at hv
      rcases hv with rfl | rfl
      · trivial
      · exact ⟨hx, trivial, trivial⟩) (by rw [mulA, (pn_ok hx hw hon).1, (pn_ok hx hw hon).2, if_pos hon]) (by simp only [List.map_cons, List.map_nil, p_den]; rfl)
  · exact fn_outS (N := 9) XF_ok GlobD.keep Tryd.func22 [(A, n, l, B)] (fun s hs => by obtain rfl := List.mem_singleton.1 hs; exact hw) ⟨hG, fun s hs => by obtain rfl := List.mem_singleton.1 hs; exact ⟨hB, hr⟩⟩ (args := [.ext A n c l, .agg [.nums 24 x, .nm (.bl true)]]) (q := [true, true]) (v := (.tup [.agg [.nums 24 (ptW K2 none), .nm (.bl true)], .num .i64 0])) (obs := [onB K2 bb (ptv K2 x true) = true, true = true]) 1 (by kernel_rfl) (hp (rfl) (hp (rfl) trivial)) (fun v hv => by
      simp only [List.mem_cons, List.not_mem_nil, or_false] at hv
      rcases hv with rfl | rfl
      · trivial
      · exact ⟨hx, trivial, trivial⟩) (mulA_none _ _) (by simp only [List.map_cons, List.map_nil, p_den]; rfl))
set_option maxRecDepth 100000 in
theorem lBase : ConG Tryd.prog GlobD 12 [] Pre0 (o0 BP) := con0 (fun n => ⟨nm_BL, trivial, trivial⟩) (fun gs => rfl) (fun w hG =>
  fn_outS (N := 9) XA_ok GlobD.keep Tryd.func12 [] (fun s hs => by cases hs) (noSS hG) (args := []) (q := []) (v := BP) (obs := []) 1 (by kernel_rfl) (trivial) (fun v hv => by cases hv) rfl rfl)
end Go.Proofs.YtajiinecicghkaaDoor.S13O
