/-
  Own text. Layer 13, the document's answer by the reckoner.
-/
import Derived.Test.YtajiinecicghkaaDoorG2K
import Derived.Test.YtajiinecicghkaaDoorEy
import Derived.Test.YtajiinecicghkaaDoorMSx
namespace Go.Proofs.YtajiinecicghkaaDoor.S13R
set_option linter.unusedVariables false
set_option linter.unusedSimpArgs false
open Go Go.RowKit Go.Proofs.YtajiinecicghkaaDoor.Reg Go.Proofs.YtajiinecicghkaaDoor.Base Go.Proofs.YtajiinecicghkaaDoor.Limb Go.Proofs.YtajiinecicghkaaDoor.Sx Go.Proofs.YtajiinecicghkaaDoor.Fp Go.Proofs.YtajiinecicghkaaDoor.Fp2 Go.Proofs.YtajiinecicghkaaDoor.Ec Go.Proofs.YtajiinecicghkaaDoor.Pts Go.Proofs.YtajiinecicghkaaDoor.G2K Go.Proofs.YtajiinecicghkaaDoor.Ey

def L0 : List (Fact Tryd.prog GlobD) := rReduce.fact (.con Tryd.func39 rfl (by decide) rReduce) ::
  rAdd.fact (.con Tryd.func43 rfl (by decide) rAdd) ::
  rSub.fact (.con Tryd.func35 rfl (by decide) rSub) ::
  rNeg.fact (.con Tryd.func40 rfl (by decide) rNeg) ::
  rMul.fact (.con Tryd.func36 rfl (by decide) rMul) ::
  rInv.fact (.con Tryd.func50 rfl (by decide) rInv) ::
  []
def XN : Cx := .of [] []
theorem XN_ok : CxOk Tryd.prog XN GlobD := cx_ok (E := []) [] trivial (by kernel_rfl)
def L1 : List (Fact Tryd.prog GlobD) := ⟨49, entI 49 XN 9, .inline XN_ok GlobD.keep Tryd.func49 rfl (by decide)⟩ ::
  ⟨44, entI 44 XN 9, .inline XN_ok GlobD.keep Tryd.func44 rfl (by decide)⟩ ::
  L0
def X1 : Cx := ((Cx.of [(27, 12)] (tb L1)).eqs [(29, 24)]).more []
theorem X1_ok : CxOk Tryd.prog X1 GlobD := ((cx_ok (E := [(27, 12)]) L1 ⟨⟨G2K.eqF, G2K.gdF⟩, trivial⟩ (by kernel_rfl)).eqs (EM := [(29, 24)]) ⟨⟨eqG, gdG⟩, trivial⟩).more (T2 := []) trivial
set_option maxRecDepth 100000 in
theorem qReduce : ConG Tryd.prog GlobD 19 [.p 24] Pre0 (o1 fun x b => PA (ptv K2 x b)) := con1 (fun x b n => pa_ok _ _) (fun x b gs => by rw [pa_den, pa_den]) (fun x hx b w hG => by
  cases b
  · exact fn_outS (N := 9) X1_ok GlobD.keep Tryd.func19 [] (fun s hs => by cases hs) (noSS hG) (args := [.agg [.nums 24 x, .nm (.bl false)]]) (q := [false]) (v := (.agg [.nums 24 (wr K2 (seg 0 12 x) ++ wr K2 (seg 12 12 x)), .nm (.bl false)])) (obs := [false = false]) 1 (by kernel_rfl) (hp (rfl) trivial) (fun v hv => by
      simp only [List.mem_cons, List.not_mem_nil, or_false] at hv
      obtain rfl := hv
      exact ⟨hx, trivial, trivial⟩) (by rw [ptv_f]; rfl) (by simp only [List.map_cons, List.map_nil, p_den])
  · exact fn_outS (N := 9) X1_ok GlobD.keep Tryd.func19 [] (fun s hs => by cases hs) (noSS hG) (args := [.agg [.nums 24 x, .nm (.bl true)]]) (q := [true]) (v := (PA none)) (obs := [true = true]) 1 (by kernel_rfl) (hp (rfl) trivial) (fun v hv => by
      simp only [List.mem_cons, List.not_mem_nil, or_false] at hv
      obtain rfl := hv
      exact ⟨hx, trivial, trivial⟩) (by rw [ptv_t]) (by simp only [List.map_cons, List.map_nil, p_den]))
set_option maxRecDepth 100000 in
theorem qNeg : ConG Tryd.prog GlobD 17 [.p 24] Pre0 (o1 fun x b => PA (negP K2.F (ptv K2 x b))) := con1 (fun x b n => pa_ok _ _) (fun x b gs => by rw [pa_den, pa_den]) (fun x hx b w hG => by
  cases b
  · exact fn_outS (N := 9) X1_ok GlobD.keep Tryd.func17 [] (fun s hs => by cases hs) (noSS hG) (args := [.agg [.nums 24 x, .nm (.bl false)]]) (q := [false]) (v := (.agg [.nums 24 (wr K2 (seg 0 12 x) ++ wn K2 (seg 12 12 x)), .nm (.bl false)])) (obs := [false = false]) 1 (by kernel_rfl) (hp (rfl) trivial) (fun v hv => by
      simp only [List.mem_cons, List.not_mem_nil, or_false] at hv
      obtain rfl := hv
      exact ⟨hx, trivial, trivial⟩) (by rw [ptv_f]; rfl) (by simp only [List.map_cons, List.map_nil, p_den])
  · exact fn_outS (N := 9) X1_ok GlobD.keep Tryd.func17 [] (fun s hs => by cases hs) (noSS hG) (args := [.agg [.nums 24 x, .nm (.bl true)]]) (q := [true]) (v := (PA none)) (obs := [true = true]) 1 (by kernel_rfl) (hp (rfl) trivial) (fun v hv => by
      simp only [List.mem_cons, List.not_mem_nil, or_false] at hv
      obtain rfl := hv
      exact ⟨hx, trivial, trivial⟩) (by rw [ptv_t]; rfl) (by simp only [List.map_cons, List.map_nil, p_den]))
set_option maxRecDepth 100000 in
theorem qOn : ConG Tryd.prog GlobD 21 [.p 24] Pre0 (o1 fun x b => .bl (onB K2 bb (ptv K2 x b))) := con1 (fun x b n => trivial) (fun x b gs => rfl) (fun x hx b w hG => by
  cases b
  · have ho := on_wc (K := K2) (hb := hb) (seg 0 12 x) (seg 12 12 x)
    by_cases h : wm K2 (seg 12 12 x) (seg 12 12 x) = wa K2 (wm K2 (wm K2 (seg 0 12 x) (seg 0 12 x)) (seg 0 12 x)) cb
    · exact fn_outS (N := 9) X1_ok GlobD.keep Tryd.func21 [] (fun s hs => by cases hs) (noSS hG) (args := [.agg [.nums 24 x, .nm (.bl false)]]) (q := [false, true]) (v := (.bl true)) (obs := [false = false, qb true (wm K2 (seg 12 12 x) (seg 12 12 x) = wa K2 (wm K2 (wm K2 (seg 0 12 x) (seg 0 12 x)) (seg 0 12 x)) cb)]) 1 (by kernel_rfl) (hp (rfl) (hp (h) trivial)) (fun v hv => by
      simp only [List.mem_cons, List.not_mem_nil, or_false] at hv
      obtain rfl := hv
      exact ⟨hx, trivial, trivial⟩) (by rw [ptv_f]; exact congrArg Value.bool (ho.1 h).symm) (by simp only [List.map_cons, List.map_nil, p_den])
    · exact fn_outS (N := 9) X1_ok GlobD.keep Tryd.func21 [] (fun s hs => by cases hs) (noSS hG) (args := [.agg [.nums 24 x, .nm (.bl false)]]) (q := [false, false]) (v := (.bl false)) (obs := [false = false, qb false (wm K2 (seg 12 12 x) (seg 12 12 x) = wa K2 (wm K2 (wm K2 (seg 0 12 x) (seg 0 12 x)) (seg 0 12 x)) cb)]) 1 (by kernel_rfl) (hp (rfl) (hp (h) trivial)) (fun v hv => by
      simp only [List.mem_cons, List.not_mem_nil, or_false] at hv
      obtain rfl := hv
      exact ⟨hx, trivial, trivial⟩) (by rw [ptv_f]; exact congrArg Value.bool (Bool.eq_false_iff.2 (fun e => h (ho.2 e))).symm) (by simp only [List.map_cons, List.map_nil, p_den])
  · exact fn_outS (N := 9) X1_ok GlobD.keep Tryd.func21 [] (fun s hs => by cases hs) (noSS hG) (args := [.agg [.nums 24 x, .nm (.bl true)]]) (q := [true]) (v := (.bl true)) (obs := [true = true]) 1 (by kernel_rfl) (hp (rfl) trivial) (fun v hv => by
      simp only [List.mem_cons, List.not_mem_nil, or_false] at hv
      obtain rfl := hv
      exact ⟨hx, trivial, trivial⟩) (by rw [ptv_t]; rfl) (by simp only [List.map_cons, List.map_nil, p_den]))
theorem rx (x : List Int) : seg 0 12 (ptW K2 (ptv K2 x false)) = wr K2 (seg 0 12 x) := by
  rw [ptv_f, ptW]
  exact seg_x K2 _ _
theorem ry (x : List Int) : seg 12 12 (ptW K2 (ptv K2 x false)) = wr K2 (seg 12 12 x) := by
  rw [ptv_f, ptW]
  exact seg_y K2 _ _
abbrev PreFF : List AA → List Ob
  | [.p _ b, .p _ c] => [b = false, c = false]
  | _ => []
theorem con2f {P : Program} {G : World → Prop} {F : FuncId} {f : List Int → List Int → AV} (h0 : ∀ x y n, (f x y).Ok n) (h1 : ∀ x y gs, (f x y).den gs = (f x y).den []) (h : ∀ x, Nm 24 x → ∀ y, Nm 24 y → ∀ w, G w → Calls P F #[.agg (vals .u64 x ++ #[.bool false]), .agg (vals .u64 y ++ #[.bool false])] w fun e w' => e = .returned ((f x y).den []) ∧ RowKit.Below w.heap.size w w') : ConG P G F [.p 24, .p 24] PreFF (o2 fun x _ y _ => f x y) := by
  intro l hl hp
  match l, hl, hp with
  | [.p x b, .p y c], ⟨hx, hy, _⟩, hp =>
    obtain ⟨rfl, rfl, _⟩ := hp
    refine ⟨h0 x y, h1 x y, fun w hG vs hv => ?_⟩
    match vs, hv with
    | [v, u], ⟨hv, hu, _⟩ =>
      obtain rfl := hv
      obtain rfl := hu
      exact h x hx y hy w hG
def T2 : List (FuncId × Ent2) := [(19, entG [.p 24] Pre0 (o1 fun x b => PA (ptv K2 x b))), (17, entG [.p 24] Pre0 (o1 fun x b => PA (negP K2.F (ptv K2 x b)))), (21, entG [.p 24] Pre0 (o1 fun x b => .bl (onB K2 bb (ptv K2 x b))))]
theorem T2_ok : TOk2 Tryd.prog GlobD T2 := ⟨.conG Tryd.func19 rfl (by decide) qReduce, .conG Tryd.func17 rfl (by decide) qNeg, .conG Tryd.func21 rfl (by decide) qOn, trivial⟩
def X2 : Cx := ((Cx.of [(27, 12)] (tb L1)).eqs [(29, 24)]).more T2
theorem X2_ok : CxOk Tryd.prog X2 GlobD := ((cx_ok (E := [(27, 12)]) L1 ⟨⟨G2K.eqF, G2K.gdF⟩, trivial⟩ (by kernel_rfl)).eqs (EM := [(29, 24)]) ⟨⟨eqG, gdG⟩, trivial⟩).more T2_ok
set_option maxRecDepth 100000 in
theorem qSlope : ConG Tryd.prog GlobD 34 [.p 24, .p 24] PreFF (o2 fun x _ y _ => .tup [.agg [.nums 12 (slF K2 c0 c2 c3 x y).1], .bl (slF K2 c0 c2 c3 x y).2]) := con2f (fun x y n => ⟨⟨nm_slF K2 _ _ _ _ _, trivial⟩, trivial, trivial⟩) (fun x y gs => rfl) (fun x hx y hy w hG => by
  by_cases e1 : wr K2 (seg 0 12 x) = wr K2 (seg 0 12 y)
  · by_cases e2 : wr K2 (seg 12 12 x) = wr K2 (seg 12 12 y)
    · by_cases e3 : wr K2 (seg 12 12 x) = c0
      · exact fn_outS (N := 9) X2_ok GlobD.keep Tryd.func34 [] (fun s hs => by cases hs) (noSS hG) (args := [.agg [.nums 24 x, .nm (.bl false)], .agg [.nums 24 y, .nm (.bl false)]]) (q := [true, true, true]) (v := (.tup [.agg [.nums 12 (List.replicate 12 0)], .bl false])) (obs := [qb true ((seg 0 12 (ptW K2 (ptv K2 x false))) = (seg 0 12 (ptW K2 (ptv K2 y false)))), qb true ((seg 12 12 (ptW K2 (ptv K2 x false))) = (seg 12 12 (ptW K2 (ptv K2 y false)))), qb true ((seg 12 12 (ptW K2 (ptv K2 x false))) = [0, 0, 0, 0, 0, 0, 0, 0, 0, 0, 0, 0])]) 1 (by kernel_rfl) (hp ((by rw [rx, rx]; exact e1)) (hp ((by rw [ry, ry]; exact e2)) (hp ((by rw [ry]; exact e3)) trivial))) (fun v hv => by
      simp only [List.mem_cons, List.not_mem_nil, or_false] at hv
      rcases hv with rfl | rfl
      · exact ⟨hx, trivial, trivial⟩
      · exact ⟨hy, trivial, trivial⟩) (by rw [show slF K2 c0 c2 c3 x y = (List.replicate 12 0, false) from (if_pos e1).trans (if_neg fun h => h.2 e3)]) (by simp only [List.map_cons, List.map_nil, p_den])
      · exact fn_outS (N := 9) X2_ok GlobD.keep Tryd.func34 [] (fun s hs => by cases hs) (noSS hG) (args := [.agg [.nums 24 x, .nm (.bl false)], .agg [.nums 24 y, .nm (.bl false)]]) (q := [true, true, false]) (v := (.tup [.agg [.nums 12 (slTw K2 c2 c3 (seg 0 12 (ptW K2 (ptv K2 x false))) (seg 12 12 (ptW K2 (ptv K2 x false))))], .bl true])) (obs := [qb true ((seg 0 12 (ptW K2 (ptv K2 x false))) = (seg 0 12 (ptW K2 (ptv K2 y false)))), qb true ((seg 12 12 (ptW K2 (ptv K2 x false))) = (seg 12 12 (ptW K2 (ptv K2 y false)))), qb false ((seg 12 12 (ptW K2 (ptv K2 x false))) = [0, 0, 0, 0, 0, 0, 0, 0, 0, 0, 0, 0])]) 1 (by kernel_rfl) (hp ((by rw [rx, rx]; exact e1)) (hp ((by rw [ry, ry]; exact e2)) (hp ((by rw [ry]; exact e3)) trivial))) (fun v hv => by
      simp only [List.mem_cons, List.not_mem_nil, or_false] at hv
      rcases hv with rfl | rfl
      · exact ⟨hx, trivial, trivial⟩
      · exact ⟨hy, trivial, trivial⟩) (by rw [rx, ry, show slF K2 c0 c2 c3 x y = (slTw K2 c2 c3 (wr K2 (seg 0 12 x)) (wr K2 (seg 12 12 x)), true) from (if_pos e1).trans (if_pos ⟨e2, e3⟩)]) (by simp only [List.map_cons, List.map_nil, p_den])
    · exact fn_outS (N := 9) X2_ok GlobD.keep Tryd.func34 [] (fun s hs => by cases hs) (noSS hG) (args := [.agg [.nums 24 x, .nm (.bl false)], .agg [.nums 24 y, .nm (.bl false)]]) (q := [true, false]) (v := (.tup [.agg [.nums 12 (List.replicate 12 0)], .bl false])) (obs := [qb true ((seg 0 12 (ptW K2 (ptv K2 x false))) = (seg 0 12 (ptW K2 (ptv K2 y false)))), qb false ((seg 12 12 (ptW K2 (ptv K2 x false))) = (seg 12 12 (ptW K2 (ptv K2 y false))))]) 1 (by kernel_rfl) (hp ((by rw [rx, rx]; exact e1)) (hp ((by rw [ry, ry]; exact e2)) trivial)) (fun v hv => by
      simp only [List.mem_cons, List.not_mem_nil, or_false] at hv
      rcases hv with rfl | rfl
      · exact ⟨hx, trivial, trivial⟩
      · exact ⟨hy, trivial, trivial⟩) (by rw [show slF K2 c0 c2 c3 x y = (List.replicate 12 0, false) from (if_pos e1).trans (if_neg fun h => e2 h.1)]) (by simp only [List.map_cons, List.map_nil, p_den])
  · exact fn_outS (N := 9) X2_ok GlobD.keep Tryd.func34 [] (fun s hs => by cases hs) (noSS hG) (args := [.agg [.nums 24 x, .nm (.bl false)], .agg [.nums 24 y, .nm (.bl false)]]) (q := [false]) (v := (.tup [.agg [.nums 12 (slCw K2 (seg 0 12 (ptW K2 (ptv K2 x false))) (seg 12 12 (ptW K2 (ptv K2 x false))) (seg 0 12 (ptW K2 (ptv K2 y false))) (seg 12 12 (ptW K2 (ptv K2 y false))))], .bl true])) (obs := [qb false ((seg 0 12 (ptW K2 (ptv K2 x false))) = (seg 0 12 (ptW K2 (ptv K2 y false))))]) 1 (by kernel_rfl) (hp ((by rw [rx, rx]; exact e1)) trivial) (fun v hv => by
      simp only [List.mem_cons, List.not_mem_nil, or_false] at hv
      rcases hv with rfl | rfl
      · exact ⟨hx, trivial, trivial⟩
      · exact ⟨hy, trivial, trivial⟩) (by rw [rx, rx, ry, ry, show slF K2 c0 c2 c3 x y = (slCw K2 (wr K2 (seg 0 12 x)) (wr K2 (seg 12 12 x)) (wr K2 (seg 0 12 y)) (wr K2 (seg 12 12 y)), true) from if_neg e1]) (by simp only [List.map_cons, List.map_nil, p_den]))
def T3_ : List (FuncId × Ent2) := [(34, entG [.p 24, .p 24] PreFF (o2 fun x _ y _ => .tup [.agg [.nums 12 (slF K2 c0 c2 c3 x y).1], .bl (slF K2 c0 c2 c3 x y).2])), (19, entG [.p 24] Pre0 (o1 fun x b => PA (ptv K2 x b))), (17, entG [.p 24] Pre0 (o1 fun x b => PA (negP K2.F (ptv K2 x b)))), (21, entG [.p 24] Pre0 (o1 fun x b => .bl (onB K2 bb (ptv K2 x b))))]
theorem T3__ok : TOk2 Tryd.prog GlobD T3_ := ⟨.conG Tryd.func34 rfl (by decide) qSlope, .conG Tryd.func19 rfl (by decide) qReduce, .conG Tryd.func17 rfl (by decide) qNeg, .conG Tryd.func21 rfl (by decide) qOn, trivial⟩
def X3 : Cx := ((Cx.of [(27, 12)] (tb L1)).eqs [(29, 24)]).more T3_
theorem X3_ok : CxOk Tryd.prog X3 GlobD := ((cx_ok (E := [(27, 12)]) L1 ⟨⟨G2K.eqF, G2K.gdF⟩, trivial⟩ (by kernel_rfl)).eqs (EM := [(29, 24)]) ⟨⟨eqG, gdG⟩, trivial⟩).more T3__ok
set_option maxRecDepth 100000 in
theorem qAdd : ConG Tryd.prog GlobD 15 [.p 24, .p 24] Pre0 (o2 fun x b y c => PA (addP K2.F (ptv K2 x b) (ptv K2 y c))) := con2 (fun x b y c n => pa_ok _ _) (fun x b y c gs => by rw [pa_den, pa_den]) (fun x hx b y hy c w hG => by
  cases b
  · cases c
    · cases e : (slF K2 c0 c2 c3 x y).2
      · exact fn_outS (N := 9) X3_ok GlobD.keep Tryd.func15 [] (fun s hs => by cases hs) (noSS hG) (args := [.agg [.nums 24 x, .nm (.bl false)], .agg [.nums 24 y, .nm (.bl false)]]) (q := [false, false, false]) (v := (PA none)) (obs := [false = false, false = false, false = false, false = false, (slF K2 c0 c2 c3 x y).2 = false]) 1 (by kernel_rfl) (hp (rfl) (hp (rfl) (hp (rfl) (hp (rfl) (hp (e) trivial))))) (fun v hv => by
      simp only [List.mem_cons, List.not_mem_nil, or_false] at hv
      rcases hv with rfl | rfl
      · exact ⟨hx, trivial, trivial⟩
      · exact ⟨hy, trivial, trivial⟩) (by rw [add_no K2 h0 e]) (by simp only [List.map_cons, List.map_nil, p_den])
      · obtain ⟨k1, k2⟩ := add_yes K2 h2 h3 h0 e
        exact fn_outS (N := 9) X3_ok GlobD.keep Tryd.func15 [] (fun s hs => by cases hs) (noSS hG) (args := [.agg [.nums 24 x, .nm (.bl false)], .agg [.nums 24 y, .nm (.bl false)]]) (q := [false, false, true]) (v := (.agg [.nums 24 (xsw K2 (slF K2 c0 c2 c3 x y).1 (seg 0 12 x) (seg 0 12 y) ++ ysw K2 (slF K2 c0 c2 c3 x y).1 (seg 0 12 x) (seg 12 12 x) (xsw K2 (slF K2 c0 c2 c3 x y).1 (seg 0 12 x) (seg 0 12 y))), .nm (.bl false)])) (obs := [false = false, false = false, false = false, false = false, (slF K2 c0 c2 c3 x y).2 = true]) 1 (by kernel_rfl) (hp (rfl) (hp (rfl) (hp (rfl) (hp (rfl) (hp (e) trivial))))) (fun v hv => by
      simp only [List.mem_cons, List.not_mem_nil, or_false] at hv
      rcases hv with rfl | rfl
      · exact ⟨hx, trivial, trivial⟩
      · exact ⟨hy, trivial, trivial⟩) (by rw [pa_den, ← k1, k2]; exact p_den) (by simp only [List.map_cons, List.map_nil, p_den])
    · exact fn_outS (N := 9) X3_ok GlobD.keep Tryd.func15 [] (fun s hs => by cases hs) (noSS hG) (args := [.agg [.nums 24 x, .nm (.bl false)], .agg [.nums 24 y, .nm (.bl true)]]) (q := [false, true]) (v := (PA (ptv K2 x false))) (obs := [false = false, true = true]) 1 (by kernel_rfl) (hp (rfl) (hp (rfl) trivial)) (fun v hv => by
      simp only [List.mem_cons, List.not_mem_nil, or_false] at hv
      rcases hv with rfl | rfl
      · exact ⟨hx, trivial, trivial⟩
      · exact ⟨hy, trivial, trivial⟩) (by rw [ptv_t, ptv_f]; rfl) (by simp only [List.map_cons, List.map_nil, p_den])
  · exact fn_outS (N := 9) X3_ok GlobD.keep Tryd.func15 [] (fun s hs => by cases hs) (noSS hG) (args := [.agg [.nums 24 x, .nm (.bl true)], .agg [.nums 24 y, .nm (.bl c)]]) (q := [true]) (v := (PA (ptv K2 y c))) (obs := [true = true]) 1 (by kernel_rfl) (hp (rfl) trivial) (fun v hv => by
      simp only [List.mem_cons, List.not_mem_nil, or_false] at hv
      rcases hv with rfl | rfl
      · exact ⟨hx, trivial, trivial⟩
      · exact ⟨hy, trivial, trivial⟩) (by rw [ptv_t]; rfl) (by simp only [List.map_cons, List.map_nil, p_den]))
theorem nm_twR (X Y Z : List Int) : Nm 36 (twR K2 c2 c3 c4 c8 X Y Z) := ((K2.wo_nm _).app (K2.wo_nm _)).app (K2.wo_nm _)
theorem nm_plR (X Y Z u v : List Int) : Nm 36 (plRw K2 X Y Z u v) := ((K2.wo_nm _).app (K2.wo_nm _)).app (K2.wo_nm _)
set_option maxRecDepth 100000 in
theorem qTwice : Con Tryd.prog GlobD 47 [36] (f1 fun l => W 36 (twR K2 c2 c3 c4 c8 (seg 0 12 l) (seg 12 12 l) (seg 24 12 l))) := .w1 X2_ok GlobD.keep Tryd.func47 9 (fun _ _ => nm_twR _ _ _) (fun _ _ => rfl) (fun _ => by kernel_rfl)
theorem nm_c1 : Nm 12 c1 := ⟨rfl, words_of _ (by decide)⟩
theorem nm_plF {l q : List Int} (hq : Nm 24 q) : Nm 36 (plF K2 c0 c1 c2 c3 c4 c8 l q) := by
  unfold plF
  split
  · exact hq.app nm_c1
  · split
    · split
      · exact nm_twR _ _ _
      · exact ⟨rfl, words_zeros 36⟩
    · exact nm_plR _ _ _ _ _
abbrev PreF1 : List AA → List Ob
  | [.w l, .p q b] => [b = false]
  | _ => []
def owp (f : List Int → List Int → AV) : List AA → AV
  | [.w l, .p q _] => f l q
  | _ => .unk
theorem conwp {P : Program} {G : World → Prop} {F : FuncId} {f : List Int → List Int → AV} (h0 : ∀ l q, Nm 24 q → ∀ n, (f l q).Ok n) (h1 : ∀ l q gs, (f l q).den gs = (f l q).den []) (h : ∀ l, Nm 36 l → ∀ q, Nm 24 q → ∀ w, G w → Calls P F #[.agg (vals .u64 l), .agg (vals .u64 q ++ #[.bool false])] w fun e w' => e = .returned ((f l q).den []) ∧ RowKit.Below w.heap.size w w') : ConG P G F [.w 36, .p 24] PreF1 (owp f) := by
  intro l hl hp
  match l, hl, hp with
  | [.w x, .p q c], ⟨hx, hy, _⟩, hp =>
    obtain ⟨rfl, _⟩ := hp
    refine ⟨h0 x q hy, h1 x q, fun w hG vs hv => ?_⟩
    match vs, hv with
    | [v, u], ⟨hv, hu, _⟩ =>
      obtain rfl := hv
      obtain rfl := hu
      exact h x hx q hy w hG
theorem l_den {n : Nat} {x : List Int} {gs : List Nat} : (AV.agg [.nums n x]).den gs = .agg (vals .u64 x) := den_nums
def L4 : List (Fact Tryd.prog GlobD) := qTwice.fact (.con Tryd.func47 rfl (by decide) qTwice) ::
  L1
def X4 : Cx := ((Cx.of [(27, 12)] (tb L4)).eqs [(29, 24)]).more T3_
theorem X4_ok : CxOk Tryd.prog X4 GlobD := ((cx_ok (E := [(27, 12)]) L4 ⟨⟨G2K.eqF, G2K.gdF⟩, trivial⟩ (by kernel_rfl)).eqs (EM := [(29, 24)]) ⟨⟨eqG, gdG⟩, trivial⟩).more T3__ok
set_option maxRecDepth 100000 in
theorem qPlus : ConG Tryd.prog GlobD 48 [.w 36, .p 24] PreF1 (owp fun l q => .agg [.nums 36 (plF K2 c0 c1 c2 c3 c4 c8 l q)]) := conwp (fun l q hq n => ⟨nm_plF hq, trivial⟩) (fun l q gs => rfl) (fun l hl q hq w hG => by
  by_cases e1 : seg 24 12 l = c0
  · exact fn_outS (N := 9) X4_ok GlobD.keep Tryd.func48 [] (fun s hs => by cases hs) (noSS hG) (args := [.agg [.nums 36 l], .agg [.nums 24 q, .nm (.bl false)]]) (q := [true]) (v := (.agg [.nums 36 (seg 0 12 q ++ seg 12 12 q ++ [1] ++ [0, 0, 0, 0, 0] ++ [0, 0, 0, 0, 0, 0])])) (obs := [qb true (seg 24 12 l = [0, 0, 0, 0, 0, 0, 0, 0, 0, 0, 0, 0])]) 1 (by kernel_rfl) (hp (e1) trivial) (fun v hv => by
      simp only [List.mem_cons, List.not_mem_nil, or_false] at hv
      rcases hv with rfl | rfl
      · exact ⟨hl, trivial⟩
      · exact ⟨hq, trivial, trivial⟩) (by rw [show plF K2 c0 c1 c2 c3 c4 c8 l q = q ++ c1 from if_pos e1, ← seg_all (n := 12) (m := 12) hq.len, List.append_assoc, List.append_assoc]; rfl) (by simp only [List.map_cons, List.map_nil, p_den, l_den])
  · by_cases e2 : hW K2 (seg 0 12 l) (seg 24 12 l) (seg 0 12 q) = c0
    · by_cases e3 : rW K2 (seg 12 12 l) (seg 24 12 l) (seg 12 12 q) = c0
      · exact fn_outS (N := 9) X4_ok GlobD.keep Tryd.func48 [] (fun s hs => by cases hs) (noSS hG) (args := [.agg [.nums 36 l], .agg [.nums 24 q, .nm (.bl false)]]) (q := [false, true, true]) (v := (.agg [.nums 36 (twR K2 c2 c3 c4 c8 (seg 0 12 l) (seg 12 12 l) (seg 24 12 l))])) (obs := [qb false (seg 24 12 l = [0, 0, 0, 0, 0, 0, 0, 0, 0, 0, 0, 0]), qb true (hW K2 (seg 0 12 l) (seg 24 12 l) (seg 0 12 q) = [0, 0, 0, 0, 0, 0, 0, 0, 0, 0, 0, 0]), qb true (rW K2 (seg 12 12 l) (seg 24 12 l) (seg 12 12 q) = [0, 0, 0, 0, 0, 0, 0, 0, 0, 0, 0, 0])]) 1 (by kernel_rfl) (hp (e1) (hp (e2) (hp (e3) trivial))) (fun v hv => by
      simp only [List.mem_cons, List.not_mem_nil, or_false] at hv
      rcases hv with rfl | rfl
      · exact ⟨hl, trivial⟩
      · exact ⟨hq, trivial, trivial⟩) (by rw [show plF K2 c0 c1 c2 c3 c4 c8 l q = twR K2 c2 c3 c4 c8 (seg 0 12 l) (seg 12 12 l) (seg 24 12 l) from (if_neg e1).trans ((if_pos e2).trans (if_pos e3))]) (by simp only [List.map_cons, List.map_nil, p_den, l_den])
      · exact fn_outS (N := 9) X4_ok GlobD.keep Tryd.func48 [] (fun s hs => by cases hs) (noSS hG) (args := [.agg [.nums 36 l], .agg [.nums 24 q, .nm (.bl false)]]) (q := [false, true, false]) (v := (.agg [.nums 36 (List.replicate 36 0)])) (obs := [qb false (seg 24 12 l = [0, 0, 0, 0, 0, 0, 0, 0, 0, 0, 0, 0]), qb true (hW K2 (seg 0 12 l) (seg 24 12 l) (seg 0 12 q) = [0, 0, 0, 0, 0, 0, 0, 0, 0, 0, 0, 0]), qb false (rW K2 (seg 12 12 l) (seg 24 12 l) (seg 12 12 q) = [0, 0, 0, 0, 0, 0, 0, 0, 0, 0, 0, 0])]) 1 (by kernel_rfl) (hp (e1) (hp (e2) (hp (e3) trivial))) (fun v hv => by
      simp only [List.mem_cons, List.not_mem_nil, or_false] at hv
      rcases hv with rfl | rfl
      · exact ⟨hl, trivial⟩
      · exact ⟨hq, trivial, trivial⟩) (by rw [show plF K2 c0 c1 c2 c3 c4 c8 l q = List.replicate 36 0 from (if_neg e1).trans ((if_pos e2).trans (if_neg e3))]) (by simp only [List.map_cons, List.map_nil, p_den, l_den])
    · exact fn_outS (N := 9) X4_ok GlobD.keep Tryd.func48 [] (fun s hs => by cases hs) (noSS hG) (args := [.agg [.nums 36 l], .agg [.nums 24 q, .nm (.bl false)]]) (q := [false, false]) (v := (.agg [.nums 36 (plRw K2 (seg 0 12 l) (seg 12 12 l) (seg 24 12 l) (seg 0 12 q) (seg 12 12 q))])) (obs := [qb false (seg 24 12 l = [0, 0, 0, 0, 0, 0, 0, 0, 0, 0, 0, 0]), qb false (hW K2 (seg 0 12 l) (seg 24 12 l) (seg 0 12 q) = [0, 0, 0, 0, 0, 0, 0, 0, 0, 0, 0, 0])]) 1 (by kernel_rfl) (hp (e1) (hp (e2) trivial)) (fun v hv => by
      simp only [List.mem_cons, List.not_mem_nil, or_false] at hv
      rcases hv with rfl | rfl
      · exact ⟨hl, trivial⟩
      · exact ⟨hq, trivial, trivial⟩) (by rw [show plF K2 c0 c1 c2 c3 c4 c8 l q = plRw K2 (seg 0 12 l) (seg 12 12 l) (seg 24 12 l) (seg 0 12 q) (seg 12 12 q) from (if_neg e1).trans (if_neg e2)]) (by simp only [List.map_cons, List.map_nil, p_den, l_den]))
def T5 : List (FuncId × Ent2) := [(48, entG [.w 36, .p 24] PreF1 (owp fun l q => .agg [.nums 36 (plF K2 c0 c1 c2 c3 c4 c8 l q)])), (19, entG [.p 24] Pre0 (o1 fun x b => PA (ptv K2 x b))), (17, entG [.p 24] Pre0 (o1 fun x b => PA (negP K2.F (ptv K2 x b)))), (21, entG [.p 24] Pre0 (o1 fun x b => .bl (onB K2 bb (ptv K2 x b))))]
theorem T5_ok : TOk2 Tryd.prog GlobD T5 := ⟨.conG Tryd.func48 rfl (by decide) qPlus, .conG Tryd.func19 rfl (by decide) qReduce, .conG Tryd.func17 rfl (by decide) qNeg, .conG Tryd.func21 rfl (by decide) qOn, trivial⟩
def X5 : Cx := ((Cx.of [(27, 12)] (tb L4)).eqs [(29, 24)]).more T5
theorem X5_ok : CxOk Tryd.prog X5 GlobD := ((cx_ok (E := [(27, 12)]) L4 ⟨⟨G2K.eqF, G2K.gdF⟩, trivial⟩ (by kernel_rfl)).eqs (EM := [(29, 24)]) ⟨⟨eqG, gdG⟩, trivial⟩).more T5_ok
theorem four_ne : ¬ K2.F.Z bb := by show ¬ ((4 : Int) % PP = 0 ∧ (4 : Int) % PP = 0); decide +kernel
theorem h1 : K2.wo (K2.F.int 1) = c1 := by decide +kernel
theorem hz : List.replicate K2.n 0 = c0 := rfl
abbrev q_ (x : List Int) : List Int := ptW K2 (ptv K2 x false)
abbrev tw_ (l : List Int) : List Int := twR K2 c2 c3 c4 c8 (seg 0 12 l) (seg 12 12 l) (seg 24 12 l)
abbrev pl_ (x l : List Int) : List Int := plF K2 c0 c1 c2 c3 c4 c8 l (q_ x)
section
variable (x o : List Int) (A : Option Addr) (n c : Nat) (l : List Int)
def b4 : List Bk := [(29, [.nums 24 x, .nm (.bl false)]), (29, [.nums 24 [0, 0, 0, 0, 0, 0, 0, 0, 0, 0, 0, 0, 0, 0, 0, 0, 0, 0, 0, 0, 0, 0, 0, 0], .one (.bool false)]), (29, [.nums 24 (q_ x), .nm (.bl false)]), (63, [.nums 36 o])]
def m1 (k : Nat) : St := ⟨mkSl 68 [(0, .ext A n c l), (3, .ptr 0 0), (4, .ptr 1 0), (7, .ptr 2 0), (8, .ptr 3 0), (9, .num .i64 (64 * (n : Int) - 1 - k))], b4 x o⟩
def m1e : St := ⟨mkSl 68 [(4, .ptr 1 0), (8, .ptr 3 0)], b4 x o⟩
end
abbrev SM (A : Option Addr) (n : Nat) (l : List Int) (B : Nat) : SS := [(A, n * 1, l, B)]
def DM (A : Option Addr) (n : Nat) (l : List Int) (A' : Option Addr) (n' : Nat) (l' : List Int) : Prop := A' = A ∧ n' = n ∧ l' = l
def GM (A : Option Addr) (n : Nat) (l : List Int) (B : Nat) (u : World) : Prop := (GlobD u ∧ B ≤ u.heap.size) ∧ Rd u B A n .u64 l
theorem GM.keep {A : Option Addr} {n : Nat} {l : List Int} {B : Nat} {w u : World} (h : GM A n l B w) (hb : RowKit.Below w.heap.size w u) : GM A n l B u := ⟨⟨h.1.1.keep hb, Nat.le_trans h.1.2 hb.size⟩, h.2.keep hb h.1.2⟩
abbrev XM (A : Option Addr) (n : Nat) (l : List Int) (H : List (Nat × Ev)) : Cx := X5.sym (DM A n l) H
theorem XM_ok {A : Option Addr} {n : Nat} {l : List Int} {B : Nat} (hw : Words l) (H : List (Nat × Ev)) : CxB Tryd.prog (XM A n l H) (GM A n l B) :=
  X5_ok.toCxB.sym (fun u h => h.1.1) (fun A' n' l' h => by
    obtain ⟨rfl, rfl, rfl⟩ := h
    exact ⟨hw, B, fun u hu => ⟨hu.1.2, hu.2⟩⟩) H
section
variable {x o o' : List Int} {A : Option Addr} {n c : Nat} {l : List Int} {B S : Nat} {w : World}
theorem does (hw : Words l) (hG : ∀ u, RowKit.Below S w u → GM A n l B u) (c : Code) : Does Tryd.prog S 0 w c (evalC Tryd.prog (XM A n l []) 0 9 c) := code_ok (XM_ok hw []) hG c (fun _ _ _ h => by rw [hooked_nil] at h; cases h)
set_option maxRecDepth 100000 in
theorem rndf {k : Nat} (hk : k < 64 * n) (hn : n ≤ 10000) (h2 : qb false (bits .and .u64 (wd_ n l k) 1 = 1)) (hrow : tw_ o = o') (hw : Words l) (hG : ∀ u, RowKit.Below S w u → GM A n l B u) : Goes Tryd.prog S 0 w (lpc Tryd.f23 0) (m1 x o A n c l k) .nrm (m1 x o' A n c l (k + 1)) := by
  have hd := wd_in (n := n) hw k
  have hand := and_one hd.1 hd.2
  exact (does hw hG _).goes [true, false] (ps := [A = A ∧ n = n ∧ c = c ∧ l = l, 64 * (n : Int) - 1 - k - 1 = 64 * (n : Int) - 1 - ((k + 1 : Nat) : Int), [Sg.nums 24 x, .nm (.bl false)] = [Sg.nums 24 x, .nm (.bl false)], [Sg.nums 24 [0, 0, 0, 0, 0, 0, 0, 0, 0, 0, 0, 0, 0, 0, 0, 0, 0, 0, 0, 0, 0, 0, 0, 0], .one (.bool false)] = [Sg.nums 24 [0, 0, 0, 0, 0, 0, 0, 0, 0, 0, 0, 0, 0, 0, 0, 0, 0, 0, 0, 0, 0, 0, 0, 0], .one (.bool false)], [Sg.nums 24 (q_ x), .nm (.bl false)] = [Sg.nums 24 (q_ x), .nm (.bl false)], tw_ o = o', qb true (0 ≤ ji n k), 0 ≤ ji n k ∧ (0 : Int) < 64, IntKind.i64.wrap (ji n k / 64) = ji n k / 64, 0 ≤ ji n k / 64 ∧ ji n k / 64 < (n : Int), DM A n l A (n * 1) l ∧ 0 < 1, (ji n k / 64).toNat * 1 < n * 1, DM A n l A (n * 1) l ∧ 0 < n * 1, 0 ≤ ji n k ∧ (0 : Int) < 64, True, IntKind.u64.wrap (ji n k % 64) = ji n k % 64, rng .u64 (ji n k % 64), 0 ≤ ji n k % 64 ∧ ji n k % 64 < ((64 : Nat) : Int), rng .u64 (wd_ n l k), rng .u64 (bits .and .u64 (wd_ n l k) 1), qb false (bits .and .u64 (wd_ n l k) 1 = 1), IntKind.i64.wrap (64 * (n : Int) - 1 - k - 1) = 64 * (n : Int) - 1 - k - 1]) (by kernel_rfl) (hp (⟨rfl, rfl, rfl, rfl⟩) (hp (by omega) (hp (rfl) (hp (rfl) (hp (rfl) (hp (hrow) (hp ((by simp only [ji]; omega : 0 ≤ ji n k)) (hp (by simp only [ji]; omega) (hp (IntWalk.i64_in _ (by simp only [ji]; omega)) (hp (by simp only [ji]; omega) (hp (⟨⟨rfl, Nat.mul_one _, rfl⟩, by decide⟩) (hp (by simp only [ji]; omega) (hp (⟨⟨rfl, Nat.mul_one _, rfl⟩, by omega⟩) (hp (by simp only [ji]; omega) (hp (trivial) (hp (IntWalk.u64_in _ (by simp only [ji]; omega)) (hp ((by simp only [ji]; omega : 0 ≤ ji n k % 64 ∧ ji n k % 64 < 18446744073709551616)) (hp (by simp only [ji]; omega) (hp ((by omega : 0 ≤ wd_ n l k ∧ wd_ n l k < 18446744073709551616)) (hp (hand ▸ (by omega : 0 ≤ wd_ n l k % 2 ∧ wd_ n l k % 2 < 18446744073709551616)) (hp (h2) (hp (IntWalk.i64_in _ (by omega)) trivial)))))))))))))))))))))) (by kernel_rfl)
set_option maxRecDepth 100000 in
theorem rndt {k : Nat} (hk : k < 64 * n) (hn : n ≤ 10000) (h2 : qb true (bits .and .u64 (wd_ n l k) 1 = 1)) (hrow : pl_ x (tw_ o) = o') (hw : Words l) (hG : ∀ u, RowKit.Below S w u → GM A n l B u) : Goes Tryd.prog S 0 w (lpc Tryd.f23 0) (m1 x o A n c l k) .nrm (m1 x o' A n c l (k + 1)) := by
  have hd := wd_in (n := n) hw k
  have hand := and_one hd.1 hd.2
  exact (does hw hG _).goes [true, true] (ps := [A = A ∧ n = n ∧ c = c ∧ l = l, 64 * (n : Int) - 1 - k - 1 = 64 * (n : Int) - 1 - ((k + 1 : Nat) : Int), [Sg.nums 24 x, .nm (.bl false)] = [Sg.nums 24 x, .nm (.bl false)], [Sg.nums 24 [0, 0, 0, 0, 0, 0, 0, 0, 0, 0, 0, 0, 0, 0, 0, 0, 0, 0, 0, 0, 0, 0, 0, 0], .one (.bool false)] = [Sg.nums 24 [0, 0, 0, 0, 0, 0, 0, 0, 0, 0, 0, 0, 0, 0, 0, 0, 0, 0, 0, 0, 0, 0, 0, 0], .one (.bool false)], [Sg.nums 24 (q_ x), .nm (.bl false)] = [Sg.nums 24 (q_ x), .nm (.bl false)], pl_ x (tw_ o) = o', qb true (0 ≤ ji n k), 0 ≤ ji n k ∧ (0 : Int) < 64, IntKind.i64.wrap (ji n k / 64) = ji n k / 64, 0 ≤ ji n k / 64 ∧ ji n k / 64 < (n : Int), DM A n l A (n * 1) l ∧ 0 < 1, (ji n k / 64).toNat * 1 < n * 1, DM A n l A (n * 1) l ∧ 0 < n * 1, 0 ≤ ji n k ∧ (0 : Int) < 64, True, IntKind.u64.wrap (ji n k % 64) = ji n k % 64, rng .u64 (ji n k % 64), 0 ≤ ji n k % 64 ∧ ji n k % 64 < ((64 : Nat) : Int), rng .u64 (wd_ n l k), rng .u64 (bits .and .u64 (wd_ n l k) 1), qb true (bits .and .u64 (wd_ n l k) 1 = 1), false = false, IntKind.i64.wrap (64 * (n : Int) - 1 - k - 1) = 64 * (n : Int) - 1 - k - 1]) (by kernel_rfl) (hp (⟨rfl, rfl, rfl, rfl⟩) (hp (by omega) (hp (rfl) (hp (rfl) (hp (rfl) (hp (hrow) (hp ((by simp only [ji]; omega : 0 ≤ ji n k)) (hp (by simp only [ji]; omega) (hp (IntWalk.i64_in _ (by simp only [ji]; omega)) (hp (by simp only [ji]; omega) (hp (⟨⟨rfl, Nat.mul_one _, rfl⟩, by decide⟩) (hp (by simp only [ji]; omega) (hp (⟨⟨rfl, Nat.mul_one _, rfl⟩, by omega⟩) (hp (by simp only [ji]; omega) (hp (trivial) (hp (IntWalk.u64_in _ (by simp only [ji]; omega)) (hp ((by simp only [ji]; omega : 0 ≤ ji n k % 64 ∧ ji n k % 64 < 18446744073709551616)) (hp (by simp only [ji]; omega) (hp ((by omega : 0 ≤ wd_ n l k ∧ wd_ n l k < 18446744073709551616)) (hp (hand ▸ (by omega : 0 ≤ wd_ n l k % 2 ∧ wd_ n l k % 2 < 18446744073709551616)) (hp (h2) (hp (rfl) (hp (IntWalk.i64_in _ (by omega)) trivial))))))))))))))))))))))) (by kernel_rfl)
end
section
variable {x o o' : List Int} {A : Option Addr} {n c : Nat} {l : List Int} {B S : Nat} {w : World}
set_option maxRecDepth 100000 in
theorem end_ (hw : Words l) (hG : ∀ u, RowKit.Below S w u → GM A n l B u) : Goes Tryd.prog S 0 w (lpc Tryd.f23 0) (m1 x o A n c l (64 * n)) (.ext 0) (m1e x o) :=
  (does hw hG _).goes [false] (ps := [[Sg.nums 24 x, .nm (.bl false)] = [Sg.nums 24 x, .nm (.bl false)], [Sg.nums 24 [0, 0, 0, 0, 0, 0, 0, 0, 0, 0, 0, 0, 0, 0, 0, 0, 0, 0, 0, 0, 0, 0, 0, 0], .one (.bool false)] = [Sg.nums 24 [0, 0, 0, 0, 0, 0, 0, 0, 0, 0, 0, 0, 0, 0, 0, 0, 0, 0, 0, 0, 0, 0, 0, 0], .one (.bool false)], [Sg.nums 24 (q_ x), .nm (.bl false)] = [Sg.nums 24 (q_ x), .nm (.bl false)], o = o, qb false (0 ≤ ji n (64 * n))]) (by kernel_rfl) (hp (rfl) (hp (rfl) (hp (rfl) (hp (rfl) (hp ((by simp only [ji]; omega : ¬ (0 ≤ ji n (64 * n)))) trivial))))) (by kernel_rfl)
/-- The fraction behind so many rounds. -/
def jr (x : List Int) (n : Nat) (l : List Int) : Nat → List Int
  | 0 => List.replicate 36 0
  | k + 1 => if wd_ n l k % 2 = 1 then pl_ x (tw_ (jr x n l k)) else tw_ (jr x n l k)
theorem loop (hn : n ≤ 10000) (hw : Words l) (hG : ∀ u, RowKit.Below S w u → GM A n l B u) : Goes Tryd.prog S 0 w (.block 0 (.loop (lpc Tryd.f23 0))) (m1 x (jr x n l 0) A n c l 0) .nrm (m1e x (jr x n l (64 * n))) := by
  refine .loop (n := 64 * n) (fun k => m1 x (jr x n l k) A n c l k) (fun k hk => ?_) (end_ hw hG)
  have hd := wd_in (n := n) hw k
  have hand := and_one hd.1 hd.2
  by_cases hb : wd_ n l k % 2 = 1
  · exact rndt hk hn (by rw [hand]; exact hb) (by rw [jr, if_pos hb]) hw hG
  · exact rndf hk hn (by rw [hand]; exact hb) (by rw [jr, if_neg hb]) hw hG
theorem jr_ok (hw : Words l) (hl : l.length = n) (on : OnP K2.F bb (ptv K2 x false)) : ∀ k, k ≤ 64 * n → ∃ C, Mult K2.F (ey n l k) (ptv K2 x false) C ∧ RepW K2 (jr x n l k) C
  | 0, _ => ⟨none, by rw [ey_0 hw hl]; trivial, rep_none K2 h0 hz⟩
  | k + 1, hk => by
    obtain ⟨C, hC, hR⟩ := jr_ok hw hl on k (by omega)
    obtain ⟨D, hD, hE⟩ := round_two K2 h2 h3 h4 h8 four_ne on hC hR
    have hd := wd_in (n := n) hw k
    have hm := ey_more (by omega : k < 64 * n) hw
    rw [jr]
    by_cases hb : wd_ n l k % 2 = 1
    · rw [if_pos hb]
      obtain ⟨E, e1, e2⟩ := round_one K2 h2 h3 h4 h8 h0 h1 hz on hD hE
      exact ⟨E, by rw [hm, hb, show 2 * ey n l k + (1 : Int).toNat = ey n l k + ey n l k + 1 by omega]; exact e1, e2⟩
    · rw [if_neg hb]
      exact ⟨D, by rw [hm, show wd_ n l k % 2 = 0 by omega, show 2 * ey n l k + (0 : Int).toNat = ey n l k + ey n l k by omega]; exact hD, hE⟩
end
theorem blk0 : blkc Tryd.f23 0 = .loop (lpc Tryd.f23 0) := by kernel_rfl
/-- What Mul answers. -/
def mulA (m : Nat) (x : List Int) (b : Bool) : AV := .tup [.agg [.nums 24 (ptW K2 (mulO K2 bb m (ptv K2 x b))), .nm (.bl (ptB (mulO K2 bb m (ptv K2 x b))))], .num .i64 (if onB K2 bb (ptv K2 x b) = true then 0 else 120)]
set_option maxRecDepth 100000 in
theorem qMul_ (x : List Int) (hx : Nm 24 x) (b : Bool) (A : Option Addr) (n c : Nat) (l : List Int) (B : Nat) (w : World) (hG0 : GlobD w) (hr : Rd w B A n .u64 l) (hw : Words l) (hB : B ≤ w.heap.size) (hn : n ≤ 10000) : Calls Tryd.prog 23 #[.slice A n c, .agg (vals .u64 x ++ #[.bool b])] w fun e w' => e = .returned ((mulA (num l).toNat x b).den []) ∧ RowKit.Below w.heap.size w w' := by
  have hG : ∀ u, RowKit.Below w.heap.size w u → GM A n l B u := fun u hu => GM.keep ⟨⟨hG0, hB⟩, hr⟩ hu
  cases b
  · cases hon : onB K2 bb (ptv K2 x false)
    · exact fn_outK (N := 9) (XM_ok (B := B) hw []) (fun c _ id c' f h => by rw [hooked_nil] at h; cases h) Tryd.func23 hG (args := [.ext A n c l, .agg [.nums 24 x, .nm (.bl false)]]) (q := [false]) (v := (.tup [.agg [.nums 24 (List.replicate 24 0), .nm (.bl false)], .num .i64 120])) (obs := [onB K2 bb (ptv K2 x false) = false]) 1 (by kernel_rfl) (hp (hon) trivial) (fun v hv => by
      simp only [List.mem_cons, List.not_mem_nil, or_false] at hv
      rcases hv with rfl | rfl
      · trivial
      · exact ⟨hx, trivial, trivial⟩) (by rw [mulA, mulO, if_neg (by rw [hon]; decide), if_neg (by rw [hon]; decide), show ptW K2 (some (K2.F.int 0, K2.F.int 0)) = List.replicate 24 0 by rw [ptW, h0]; rfl]; rfl) (by simp only [List.map_cons, List.map_nil, p_den]; rfl)
    · have on := (onB_iff K2).1 hon
      obtain ⟨C, hC, hR⟩ := jr_ok hw hr.len on (64 * n) (Nat.le_refl _)
      rw [ey_n] at hC
      have hk : AllH Tryd.prog w.heap.size 0 w [(0, blkc Tryd.f23 0, hookEv (m1 x (jr x n l 0) A n c l 0) (m1e x (jr x n l (64 * n))))] := ⟨by rw [blk0]; exact (loop hn hw hG).does (by kernel_rfl), trivial⟩
      by_cases e : seg 24 12 (jr x n l (64 * n)) = c0
      · obtain ⟨f1, f2⟩ := fin_z K2 h0 on hC hR e
        exact fn_outK (N := 9) (XM_ok (B := B) hw [(0, hookEv (m1 x (jr x n l 0) A n c l 0) (m1e x (jr x n l (64 * n))))]) (fn_hooks (by kernel_rfl) hk) Tryd.func23 hG (args := [.ext A n c l, .agg [.nums 24 x, .nm (.bl false)]]) (q := [true, false, true]) (v := (.tup [.agg [.nums 24 (ptW K2 none), .nm (.bl true)], .num .i64 0])) (obs := [onB K2 bb (ptv K2 x false) = true, false = false, IntKind.i64.wrap (64 * (n : Int)) = 64 * (n : Int), IntKind.i64.wrap (64 * (n : Int) - 1) = 64 * (n : Int) - 1, A = A ∧ n = n ∧ c = c ∧ l = l, 64 * (n : Int) - 1 = 64 * (n : Int) - 1 - ((0 : Nat) : Int), [Sg.nums 24 x, .nm (.bl false)] = [Sg.nums 24 x, .nm (.bl false)], [Sg.nums 24 [0, 0, 0, 0, 0, 0, 0, 0, 0, 0, 0, 0, 0, 0, 0, 0, 0, 0, 0, 0, 0, 0, 0, 0], .one (.bool false)] = [Sg.nums 24 [0, 0, 0, 0, 0, 0, 0, 0, 0, 0, 0, 0, 0, 0, 0, 0, 0, 0, 0, 0, 0, 0, 0, 0], .one (.bool false)], [Sg.nums 24 (q_ x), .nm (.bl (ptB (ptv K2 x false)))] = [Sg.nums 24 (q_ x), .nm (.bl false)], List.replicate 36 0 = jr x n l 0, qb true (seg 24 12 (jr x n l (64 * n)) = [0, 0, 0, 0, 0, 0, 0, 0, 0, 0, 0, 0])]) 1 (by kernel_rfl) (hp (hon) (hp (rfl) (hp (IntWalk.i64_in _ (by omega)) (hp (IntWalk.i64_in _ (by omega)) (hp (⟨rfl, rfl, rfl, rfl⟩) (hp (by omega) (hp (rfl) (hp (rfl) (hp (rfl) (hp (rfl) (hp (e) trivial))))))))))) (fun v hv => by
      simp only [List.mem_cons, List.not_mem_nil, or_false] at hv
      rcases hv with rfl | rfl
      · trivial
      · exact ⟨hx, trivial, trivial⟩) (by rw [mulA, mulO, if_pos hon, if_pos hon, f1, f2]) (by simp only [List.map_cons, List.map_nil, p_den]; rfl)
      · obtain ⟨f1, f2⟩ := fin_n K2 h0 on hC hR e
        exact fn_outK (N := 9) (XM_ok (B := B) hw [(0, hookEv (m1 x (jr x n l 0) A n c l 0) (m1e x (jr x n l (64 * n))))]) (fn_hooks (by kernel_rfl) hk) Tryd.func23 hG (args := [.ext A n c l, .agg [.nums 24 x, .nm (.bl false)]]) (q := [true, false, false]) (v := (.tup [.agg [.nums 24 (nmW K2 (seg 0 12 (jr x n l (64 * n))) (seg 12 12 (jr x n l (64 * n))) (seg 24 12 (jr x n l (64 * n)))), .nm (.bl false)], .num .i64 0])) (obs := [onB K2 bb (ptv K2 x false) = true, false = false, IntKind.i64.wrap (64 * (n : Int)) = 64 * (n : Int), IntKind.i64.wrap (64 * (n : Int) - 1) = 64 * (n : Int) - 1, A = A ∧ n = n ∧ c = c ∧ l = l, 64 * (n : Int) - 1 = 64 * (n : Int) - 1 - ((0 : Nat) : Int), [Sg.nums 24 x, .nm (.bl false)] = [Sg.nums 24 x, .nm (.bl false)], [Sg.nums 24 [0, 0, 0, 0, 0, 0, 0, 0, 0, 0, 0, 0, 0, 0, 0, 0, 0, 0, 0, 0, 0, 0, 0, 0], .one (.bool false)] = [Sg.nums 24 [0, 0, 0, 0, 0, 0, 0, 0, 0, 0, 0, 0, 0, 0, 0, 0, 0, 0, 0, 0, 0, 0, 0, 0], .one (.bool false)], [Sg.nums 24 (q_ x), .nm (.bl (ptB (ptv K2 x false)))] = [Sg.nums 24 (q_ x), .nm (.bl false)], List.replicate 36 0 = jr x n l 0, qb false (seg 24 12 (jr x n l (64 * n)) = [0, 0, 0, 0, 0, 0, 0, 0, 0, 0, 0, 0])]) 1 (by kernel_rfl) (hp (hon) (hp (rfl) (hp (IntWalk.i64_in _ (by omega)) (hp (IntWalk.i64_in _ (by omega)) (hp (⟨rfl, rfl, rfl, rfl⟩) (hp (by omega) (hp (rfl) (hp (rfl) (hp (rfl) (hp (rfl) (hp (e) trivial))))))))))) (fun v hv => by
      simp only [List.mem_cons, List.not_mem_nil, or_false] at hv
      rcases hv with rfl | rfl
      · trivial
      · exact ⟨hx, trivial, trivial⟩) (by rw [mulA, mulO, if_pos hon, if_pos hon, f1, f2]; rfl) (by simp only [List.map_cons, List.map_nil, p_den]; rfl)
  · have f1 := out_eq K2 (mulP_none K2 (num l).toNat)
    exact fn_outK (N := 9) (XM_ok (B := B) hw []) (fun c _ id c' f h => by rw [hooked_nil] at h; cases h) Tryd.func23 hG (args := [.ext A n c l, .agg [.nums 24 x, .nm (.bl true)]]) (q := [true, true]) (v := (.tup [.agg [.nums 24 (ptW K2 none), .nm (.bl true)], .num .i64 0])) (obs := [onB K2 bb (ptv K2 x true) = true, true = true]) 1 (by kernel_rfl) (hp (rfl) (hp (rfl) trivial)) (fun v hv => by
      simp only [List.mem_cons, List.not_mem_nil, or_false] at hv
      rcases hv with rfl | rfl
      · trivial
      · exact ⟨hx, trivial, trivial⟩) (by rw [mulA, mulO, ptv_t, if_pos (by rfl), if_pos (by rfl), ← f1.1, ← f1.2]; rfl) (by simp only [List.map_cons, List.map_nil, p_den]; rfl)
def oM (f : Nat → List Int → Bool → AV) : List AA → AV
  | [.sl _ l, .p x b] => f (num l).toNat x b
  | _ => .unk
theorem conM {P : Program} {G : World → Prop} {F : FuncId} {f : Nat → List Int → Bool → AV} (h0 : ∀ m x b n, (f m x b).Ok n) (h1 : ∀ m x b gs, (f m x b).den gs = (f m x b).den []) (h : ∀ x, Nm 24 x → ∀ b A n c l B w, G w → Rd w B A n .u64 l → Words l → B ≤ w.heap.size → n ≤ 10000 → Calls P F #[.slice A n c, .agg (vals .u64 x ++ #[.bool b])] w fun e w' => e = .returned ((f (num l).toNat x b).den []) ∧ RowKit.Below w.heap.size w w') : ConG P G F [.sl, .p 24] Pre0 (oM f) := by
  intro l hl _
  match l, hl with
  | [.sl n l, .p x b], ⟨⟨hn, hl⟩, hx, _⟩ =>
    refine ⟨h0 _ x b, h1 _ x b, fun w hG vs hv => ?_⟩
    match vs, hv with
    | [v, u], ⟨⟨A, c, hv, B, hB, hr⟩, hu, _⟩ =>
      obtain rfl := hv
      obtain rfl := hu
      exact h x hx b A n c l B w hG hr hl.words hB hn
theorem mulA_ok (m : Nat) (x : List Int) (b : Bool) (n : Nat) : (mulA m x b).Ok n := ⟨⟨nm_ptW K2 _, trivial, trivial⟩, trivial, trivial⟩
theorem qMul : ConG Tryd.prog GlobD 23 [.sl, .p 24] Pre0 (oM mulA) := conM mulA_ok (fun _ _ _ _ => rfl) (fun x hx b A n c l B w hG hr hw hB hn => qMul_ x hx b A n c l B w hG hr hw hB hn)
/-- The base. -/
def BL : List Int := [15312334153293348280, 841050694974028783, 12993178926126977399, 14331714969349929730, 2740446039084699729, 165123225776229009, 16549740192668593022, 3696594454104530263, 13103893525273989193, 6443473286224459290, 9055845637167730533, 1432192374203850592, 16254428414758889473, 10536956157198377609, 7873024875724591404, 12537348094477325223, 10144865889576432922, 929383263523139089, 12297368366147926462, 4555124010822409633, 2771000935339432363, 14645187562128761775, 3651525051980876697, 434250606344352972]
theorem nm_BL : Nm 24 BL := ⟨rfl, words_of _ (by decide)⟩
def o0 (v : AV) : List AA → AV
  | [] => v
  | _ => .unk
def BP : AV := .agg [.nums 24 BL, .nm (.bl false)]
theorem con0 {P : Program} {G : World → Prop} {F : FuncId} {v : AV} (h0 : ∀ n, v.Ok n) (h1 : ∀ gs, v.den gs = v.den []) (h : ∀ w, G w → Calls P F #[] w fun e w' => e = .returned (v.den []) ∧ RowKit.Below w.heap.size w w') : ConG P G F [] Pre0 (o0 v) := by
  intro l hl _
  match l, hl with
  | [], _ =>
    refine ⟨h0, h1, fun w hG vs hv => ?_⟩
    match vs, hv with
    | [], _ => exact h w hG
set_option maxRecDepth 100000 in
theorem qBase : ConG Tryd.prog GlobD 13 [] Pre0 (o0 BP) := con0 (fun n => ⟨nm_BL, trivial, trivial⟩) (fun gs => rfl) (fun w hG =>
  fn_outS (N := 9) X1_ok GlobD.keep Tryd.func13 [] (fun s hs => by cases hs) (noSS hG) (args := []) (q := []) (v := BP) (obs := []) 1 (by kernel_rfl) (trivial) (fun v hv => by cases hv) rfl rfl)
end Go.Proofs.YtajiinecicghkaaDoor.S13R
