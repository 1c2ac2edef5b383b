/-
  Own text. A reckoner of straight code, fifth part: worlds with blocks of the function's own; operations in their order; drawn regions.
-/
import Derived.Test.YtpkbbdhpdplkeaaDoorSxD
import Derived.Great.BuildSlice
import Derived.Laws.CopyRow
namespace Go.Proofs.YtpkbbdhpdplkeaaDoor.Sx
set_option linter.unusedVariables false
set_option linter.unusedSimpArgs false
set_option linter.unusedSectionVars false
open Go Go.RowKit Go.Proofs.YtpkbbdhpdplkeaaDoor.Reg Go.Proofs.YtpkbbdhpdplkeaaDoor.Limb Go.Proofs.YtpkbbdhpdplkeaaDoor.Fp2
/-- The world x, behind w, whose first S blocks it has left alone: the blocks, those from number m on the function's own. -/
structure Wd (S : Nat) (w : World) (m : Nat) (gs : List Nat) (bs : List Bk) (x : World) : Prop where
  bel : RowKit.Below S w x
  sz : S ≤ x.heap.size
  len : gs.length = bs.length
  has : ∀ k t r, bs[k]? = some (t, r) → Has x (gs.getD k 0) t (den r).toArray ∧ Ok r
  lo : ∀ k, m ≤ k → k < gs.length → S ≤ gs.getD k 0
  nd : ∀ j k, j < gs.length → k < gs.length → m ≤ j → k ≠ j → gs.getD k 0 ≠ gs.getD j 0
theorem getD_new (gs : List Nat) (g : Nat) : (gs ++ [g]).getD gs.length 0 = g := by simp [List.getD]
section
variable {S m : Nat} {w x y u : World} {gs : List Nat} {bs : List Bk} {P : Program} {G : World → Prop} {C : Cx}
theorem Wd.bk (H : Wd S w m gs bs x) : BOk gs (fun k => bs[k]?) x := fun k t r h => H.has k t r h
theorem Wd.okr (H : Wd S w m gs bs x) : ∀ (k : Nat) (t : TypeId) (r : Row), bs[k]? = some (t, r) → Ok r := fun k t r h => (H.has k t r h).2
theorem Wd.lt (H : Wd S w m gs bs x) {k : Nat} (hk : k < gs.length) : gs.getD k 0 < x.heap.size := by
  obtain ⟨⟨t, r⟩, hb⟩ : ∃ b, bs[k]? = some b := ⟨bs[k]'(H.len ▸ hk), List.getElem?_eq_getElem _⟩
  exact (H.has k t r hb).1.lt
theorem Wd.keep (H : Wd S w m gs bs x) (h : RowKit.Below x.heap.size x y) : Wd S w m gs bs y :=
  ⟨H.bel.trans (h.mono H.sz), Nat.le_trans H.sz h.size, H.len, fun k t r hk => ⟨(H.has k t r hk).1.keep h, (H.has k t r hk).2⟩, H.lo, H.nd⟩
theorem Wd.of_but (H : Wd S w m gs bs x) (h : But x.heap.size x y) : Wd S w m gs bs y :=
  ⟨H.bel.trans (h.below H.sz H.sz), Nat.le_trans H.sz h.size, H.len, fun k t r hk => ⟨h.has (H.has k t r hk).1 (Nat.ne_of_lt (H.has k t r hk).1.lt), (H.has k t r hk).2⟩, H.lo, H.nd⟩
theorem Wd.push (H : Wd S w m gs bs x) {g t : Nat} {r : Row} (hh : Has x g t (den r).toArray) (hr : Ok r) (hg : S ≤ g) (hn : ∀ k, k < gs.length → gs.getD k 0 ≠ g) (hm : m ≤ gs.length) : Wd S w m (gs ++ [g]) (bs ++ [(t, r)]) x := by
  have hlen : (gs ++ [g]).length = gs.length + 1 := by simp
  refine ⟨H.bel, H.sz, by simp [H.len], fun k t' r' hk => ?_, fun k hk hk' => ?_, fun j k hj hk hmj hkj => ?_⟩
  · by_cases hlt : k < bs.length
    · rw [List.getElem?_append_left hlt] at hk
      rw [getD_ext (by rw [H.len]; exact hlt)]
      exact H.has k t' r' hk
    · have hk2 : k < bs.length + 1 := by
        have := (List.getElem?_eq_some_iff.1 hk).1
        simpa using this
      obtain rfl : k = bs.length := by omega
      rw [List.getElem?_append_right (Nat.le_refl _), Nat.sub_self] at hk
      injection hk with hk
      injection hk with h1 h2
      subst h1 h2
      rw [← H.len, getD_new]
      exact ⟨hh, hr⟩
  · rw [hlen] at hk'
    by_cases hlt : k < gs.length
    · rw [getD_ext hlt]
      exact H.lo k hk hlt
    · obtain rfl : k = gs.length := by omega
      rw [getD_new]
      exact hg
  · rw [hlen] at hj hk
    by_cases h1 : j < gs.length
    · rw [getD_ext h1]
      by_cases h2 : k < gs.length
      · rw [getD_ext h2]
        exact H.nd j k h1 h2 hmj hkj
      · obtain rfl : k = gs.length := by omega
        rw [getD_new]
        exact fun he => hn j h1 he.symm
    · obtain rfl : j = gs.length := by omega
      rw [getD_new]
      have h2 : k < gs.length := by omega
      rw [getD_ext h2]
      exact hn k h2
theorem Wd.set (H : Wd S w m gs bs x) {k t : Nat} {r r0 : Row} (hk : bs[k]? = some (t, r0)) (hm : m ≤ k) (hh : Has y (gs.getD k 0) t (den r).toArray) (hr : Ok r) (hb : But (gs.getD k 0) x y) : Wd S w m gs (bs.set k (t, r)) y := by
  have hlt : k < bs.length := (List.getElem?_eq_some_iff.1 hk).1
  have hlg : k < gs.length := by rw [H.len]; exact hlt
  refine ⟨H.bel.trans (hb.below (H.lo k hm hlg) H.sz), Nat.le_trans H.sz hb.size, by simp [H.len], fun j t' r' hj => ?_, H.lo, H.nd⟩
  rw [List.getElem?_set] at hj
  split at hj
  · rename_i he
    subst he
    injection hj with hj
    injection hj with h1 h2
    subst h1 h2
    exact ⟨hh, hr⟩
  · rename_i hne
    have := H.has j t' r' hj
    have hjl : j < gs.length := by
      have := (List.getElem?_eq_some_iff.1 hj).1
      rw [H.len]
      exact this
    exact ⟨hb.has this.1 (H.nd k j hlg hjl hm (Ne.symm hne)), this.2⟩
theorem SOk.ext {n n' : Nat} {sl : List AV} (h : SOk n sl) (hn : n ≤ n') : SOk n' sl := fun v hv => (h v hv).mono hn
theorem Sl.ext {gs : List Nat} {sl : List AV} {a : Act} {g : Nat} (h : Sl gs sl a) (ho : SOk gs.length sl) : Sl (gs ++ [g]) sl a := by
  exact ⟨h.1, fun i v hi hu => by rw [AV.den_ext (ho v (List.mem_of_getElem? hi))]; exact h.2 i v hi hu⟩
/-- An operation that yields one value, in the order of the text. -/
theorem wp_of_quiet {o : Oper} {a : Act} {v : Value} {K : Act → World → Prop} {Q : Exit → Act → World → Prop} (hq : o.quietAt P a (fun z => RowKit.Below u.heap.size u z) u v) (hk : ∀ z, RowKit.Below u.heap.size u z → K (a.put o.dst v) z) : o.wp P a u K Q := by
  unfold Oper.quietAt at hq
  unfold Oper.wp
  generalize (execOp a.eval o).run P u = res at hq
  unfold Oper.quietUpon at hq
  split at hq
  · obtain ⟨rfl, rfl⟩ := hq
    exact hk _ (Below.refl _ _)
  · obtain ⟨rfl, rfl⟩ := hq
    exact hk _ (Below.refl _ _)
  · obtain ⟨rfl, hc⟩ := hq
    exact hc.mono fun e z ⟨he, hb⟩ => by subst he; exact hk z hb
  · exact hq.elim
theorem wpList_quiet {ops : Array Oper} {o : Oper} {rest : List Oper} {a : Act} {v : Value} {Q : Exit → Act → World → Prop} (hs : Steady P ops (fun z => z = u) o v a) (hk : ∀ z, RowKit.Below u.heap.size u z → wpList P ops Q rest (a.put o.dst v) z) : wpList P ops Q (o :: rest) a u := by
  unfold wpList
  rcases hs with ⟨hw, hq⟩ | ⟨hw, rfl⟩
  · rw [if_pos hw]
    exact .inl (wp_of_quiet (hq u rfl) hk)
  · rw [hw, if_neg (by decide)]
    exact hk u (Below.refl _ _)
end
def zeroOf (P : Program) (t : TypeId) : Option Row := (P.info? t).bind fun i => i.zero.bind zrow
/-- The cells of a slice that is written out, before they are. -/
def mkRow (P : Program) (t : TypeId) (len : Nat) : Option (Row × Nat) := match P.underlying t with
  | some (.slice e) => match P.info? e with
    | some ie => match ie.zero with
      | some z => if len * ie.size ≤ 2 ^ 24 ∧ len * ie.size ≠ 0 then (zrow (.agg ((Array.range (len * ie.size)).map (z.cells[· % z.cells.size]!)))).map (·, ie.size) else none
      | none => none
    | none => none
  | _ => none
def stepS0 (P : Program) (C : Cx) (m : Nat) (ops : Array Oper) (sl : List AV) (bs : List Bk) (q : List Bool) (o : Oper) : Option (List AV × List Bk × List Bool × List Ob) :=
  match o.op with
  | .alloc t => match o.guard, zeroOf P t with
    | none, some z => some (putA sl o.dst (.ptr bs.length 0), bs ++ [(t, z)], q, [])
    | _, _ => none
  | .box t x => match o.guard, (ev sl x).bind rowOf with
    | none, some r => some (putA sl o.dst (.ptr bs.length 0), bs ++ [(t, r)], q, [])
    | _, _ => none
  | .buildSlice t len ps => match o.guard, mkRow P t len, evp sl ps.toList, P.underlying t with
    | none, some (z, n), some vs, some (.slice e) => match fillS (fun i => some (i * n, n)) z vs with
      | some r => some (putA sl o.dst (.slc bs.length 0 len len), bs ++ [(e, r)], q, [])
      | none => none
    | _, _, _, _ => none
  | .store t p y => match o.guard, o.dst, ev sl p, ev sl y with
    | none, none, some (.ptr k off), some v => match rowOf v, bs[k]?, P.info? t with
      | some r, some (tb, rb), some i => match part rb 0 off, part rb (off + sz r) (sz rb - (off + sz r)) with
        | some l, some e => if m ≤ k ∧ i.size = sz r ∧ off + sz r ≤ sz rb then some (sl, bs.set k (tb, l ++ r ++ e), q, []) else none
        | _, _ => none
      | _, _, _ => none
    | _, _, _, _ => none
  | _ => match stepR P C ops (fun k => bs[k]?) sl q o with
    | some (v, q1, o1) => some (putA sl o.dst v, bs, q1, o1)
    | none => none
/-- The same, guarded or not. -/
def stepS (P : Program) (C : Cx) (m : Nat) (ops : Array Oper) (sl : List AV) (bs : List Bk) (q : List Bool) (o : Oper) : Option (List AV × List Bk × List Bool × List Ob) :=
  match o.guard with
  | none => stepS0 P C m ops sl bs q o
  | some _ => match wantA ops sl o with
    | some true => stepS0 P C m ops sl bs q { o with guard := none }
    | some false => some (putA sl o.dst (.val undef), bs, q, [])
    | none => none
def seqS (P : Program) (C : Cx) (m : Nat) (ops : Array Oper) : List Oper → List AV → List Bk → List Bool → Option (List AV × List Bk × List Bool × List Ob)
  | [], sl, bs, q => some (sl, bs, q, [])
  | o :: l, sl, bs, q => match stepS P C m ops sl bs q o with
    | none => none
    | some (sl1, bs1, q1, o1) => match seqS P C m ops l sl1 bs1 q1 with
      | none => none
      | some (sl2, bs2, q2, o2) => some (sl2, bs2, q2, o1 ++ o2)
section
variable {S m : Nat} {w x y u : World} {gs : List Nat} {bs : List Bk} {sl : List AV} {G : World → Prop} {P : Program} {C : Cx} {ops : Array Oper} {a : Act} {Q : Exit → Act → World → Prop}
theorem zeroOf_ok {P : Program} {t : TypeId} {z : Row} (h : zeroOf P t = some z) : (∃ inf v, P.info? t = some inf ∧ inf.zero = some v ∧ v.cells = (den z).toArray) ∧ Ok z := by
  obtain ⟨i, h1, h2⟩ := Option.bind_eq_some_iff.1 h
  obtain ⟨v, h3, h4⟩ := Option.bind_eq_some_iff.1 h2
  obtain ⟨e, o⟩ := zrow_ok h4
  exact ⟨⟨i, v, h1, h3, e.symm⟩, o⟩
theorem store_any {P : Program} {rest : List Oper} {o : Oper} {t tb g off : Nat} {p y : Operand} {r rb l e : Row} {i : TypeInfo} (hg : o.guard = none) (ho : o.op = .store t p y) (hd : o.dst = none) (hx : a.eval p = .pointer (some ⟨g, off, none⟩)) (hy : (a.eval y).cells = (den r).toArray) (hr : Ok r) (hi : P.info? t = some i) (hs : i.size = sz r)
    (hh : Has x g tb (den rb).toArray) (hrb : Ok rb) (hfit : off + sz r ≤ sz rb) (hl : part rb 0 off = some l) (he : part rb (off + sz r) (sz rb - (off + sz r)) = some e) (h : wpList P ops Q rest a (x.setRow g (den (l ++ r ++ e)).toArray)) : wpList P ops Q (o :: rest) a x := by
  refine wpList_plain hg fun K hK => ?_
  obtain ⟨l1, _, _⟩ := part_ok hrb hl
  obtain ⟨e1, _, _⟩ := part_ok hrb he
  have hrl := den_len hr
  have hbl := den_len hrb
  have hst := run_storeCells_at P g off tb (den r) 0 (den rb).toArray x hh.eq (by simp [hrl, hbl]; omega) (fun v hv => by
    have := den_one hr
    rw [List.all_toArray, List.all_eq_true] at this
    exact this v hv)
  have e2 : List.drop (off + sz r) (den rb) = den e := by
    rw [← e1, List.take_of_length_le (by rw [List.length_drop, hbl]; omega)]
  rw [List.toList_toArray, Nat.add_zero, hrl, e2, ← List.drop_zero (l := den rb), l1, ← den_app, ← den_app] at hst
  have hrun : (storeVar t ⟨g, off, none⟩ (a.eval y)).run P x = .ok () (x.setRow g (den (l ++ r ++ e)).toArray) := by
    simp [storeVar, sizeOf, typeInfo, hi, hy, hs, hrl, hst]
  unfold Oper.wp execOp
  simp only [ho, hx, Instr.storeAt, Instr.sureAddr, Sem.run_bind, Sem.run_pure, Result.andThen_ok, hrun]
  refine hK _ _ ?_
  rw [hd]
  exact h
theorem one_ok (hC : CxOk P C G) (hG : ∀ u, RowKit.Below S w u → G u) {o : Oper} {l : List Oper} {q : List Bool} {sl1 : List AV} {bs1 : List Bk} {q1 : List Bool} {o1 : List Ob} (h1 : stepS0 P C m ops sl bs q o = some (sl1, bs1, q1, o1)) (h : Sl gs sl a) (ho : SOk gs.length sl) (hm : m ≤ gs.length) (H : Wd S w m gs bs x) (hH : Holds o1)
    (hK : ∀ gs' a' x', (∃ e, gs' = gs ++ e) → Sl gs' sl1 a' → SOk gs'.length sl1 → m ≤ gs'.length → a'.defers = a.defers → Wd S w m gs' bs1 x' → wpList P ops Q l a' x') : wpList P ops Q (o :: l) a x := by
  have hput : ∀ (v : Value), (a.put o.dst v).defers = a.defers := fun v => by cases o.dst <;> rfl
  have fresh : ∀ (t : TypeId) (r : Row) (c : Array Value) (v : AV) (vd : Value), c = (den r).toArray → Ok r → v.Ok (gs.length + 1) → v.den (gs ++ [x.heap.size]) = vd → sl1 = putA sl o.dst v → bs1 = bs ++ [(t, r)] → wpList P ops Q l (a.put o.dst vd) (x.alloc (.cells c t)) := by
    intro t r c v vd hc hr hvo hvd e1 e2
    subst hc e1 e2 hvd
    have hb : RowKit.Below x.heap.size x (x.alloc (.cells (den r).toArray t)) := (Below.refl _ _).alloc (Nat.le_refl _) _
    have H' := (H.keep hb).push (g := x.heap.size) (t := t) (r := r) (Has.new _ _ _) hr H.sz (fun k hk => Nat.ne_of_lt (H.lt hk)) hm
    have hl : (gs ++ [x.heap.size]).length = gs.length + 1 := by simp
    have hsl := sl_put (d := o.dst) (v := v) (h.ext (g := x.heap.size) ho)
    exact hK _ _ _ ⟨_, rfl⟩ hsl (sok_put (ho.ext (by omega)) (by rw [hl]; exact hvo)) (by omega) (hput _) H'
  have pden : ∀ g, (AV.ptr bs.length 0).den (gs ++ [g]) = .pointer (some ⟨g, 0, none⟩) := fun g => by rw [AV.den, ← H.len, getD_new]
  have pok : (AV.ptr bs.length 0).Ok (gs.length + 1) := by
    show bs.length < gs.length + 1
    rw [H.len]
    omega
  unfold stepS0 at h1
  split at h1
  · rename_i t hop
    split at h1
    · rename_i z hg hz
      injection h1 with h1
      injection h1 with e1 e2
      injection e2 with e2 e3
      obtain ⟨⟨inf, v, i1, i2, i3⟩, oz⟩ := zeroOf_ok hz
      refine wpList_plain hg fun K hKK => ?_
      unfold Oper.wp execOp
      have hrun : (Instr.alloc t true (.tuple #[])).run P x = .ok (.pointer (some ⟨x.heap.size, 0, none⟩)) (x.alloc (.cells v.cells t)) := by
        simp [Instr.alloc, zeroValue, typeInfo, i1, i2, newVar, newRow]
      simp only [hop, Sem.run_bind, hrun, Result.andThen_ok, Sem.run_pure, Oper.upon]
      exact hKK _ _ (fresh t z v.cells _ _ i3 oz pok (pden _) e1.symm e2.symm)
    · cases h1
  · rename_i t e hop
    split at h1
    · rename_i r hg hr
      injection h1 with h1
      injection h1 with e1 e2
      injection e2 with e2 e3
      obtain ⟨v, hv, hrr⟩ := Option.bind_eq_some_iff.1 hr
      obtain ⟨v1, v2⟩ := ev_ok h ho hv
      obtain ⟨c1, oz⟩ := rowOf_ok (gs := gs) v2 hrr
      refine wpList_plain hg fun K hKK => ?_
      unfold Oper.wp execOp
      have hrun : (Instr.box t (a.eval e)).run P x = .ok (.pointer (some ⟨x.heap.size, 0, none⟩)) (x.alloc (.cells (a.eval e).cells t)) := by
        simp [Instr.box, newVar, newRow]
      simp only [hop, Sem.run_bind, hrun, Result.andThen_ok, Sem.run_pure, Oper.upon]
      exact hKK _ _ (fresh t r _ _ _ (by rw [v1, c1]) oz pok (pden _) e1.symm e2.symm)
    · cases h1
  · rename_i t len ps hop
    split at h1
    · rename_i z n vs e hg hz hv hu
      split at h1
      · rename_i r hr
        injection h1 with h1
        injection h1 with e1 e2
        injection e2 with e2 e3
        obtain ⟨v1, v2⟩ := evp_ok h ho hv
        have hmk : ∃ ie z0, P.info? e = some ie ∧ ie.zero = some z0 ∧ ie.size = n ∧ len * ie.size ≤ 2 ^ 24 ∧ len * ie.size ≠ 0 ∧ (den z).toArray = (Array.range (len * ie.size)).map (z0.cells[· % z0.cells.size]!) ∧ Ok z := by
          unfold mkRow at hz
          rw [hu] at hz
          simp only at hz
          split at hz
          · rename_i ie hie
            split at hz
            · rename_i z0 hz0
              split at hz
              · rename_i hcc
                obtain ⟨z1, hz1, he⟩ := Option.map_eq_some_iff.1 hz
                injection he with ea eb
                subst ea
                obtain ⟨d1, d2⟩ := zrow_ok hz1
                exact ⟨ie, z0, hie, hz0, eb, hcc.1, hcc.2, d1, d2⟩
              · cases hz
            · cases hz
          · cases hz
        obtain ⟨ie, z0, g1, g2, g3, g4, g5, g6, g7⟩ := hmk
        obtain ⟨f1, f2⟩ := fillS_ok (gs := gs) g7 v2 hr
        rw [← v1, g6] at f1
        subst g3
        refine wpList_buildSlice hg t e len ps hop (den r).toArray ie z0 hu g1 g2 (by omega) g5 ?_ ?_
        · rw [Array.toList_map]
          exact f1
        · exact fresh e r _ (.slc bs.length 0 len len) _ rfl f2 pok (by rw [AV.den, ← H.len, getD_new]) e1.symm e2.symm
      · cases h1
    · cases h1
  · rename_i t p y hop
    split at h1
    · rename_i k off v hg hd hp hy
      split at h1
      · rename_i r tb rb i hv hb hi
        split at h1
        · rename_i ll ee hl he
          split at h1
          · rename_i hc
            injection h1 with h1
            injection h1 with e1 e2
            injection e2 with e2 e3
            subst e1 e2
            obtain ⟨p1, p2⟩ := ev_ok h ho hp
            obtain ⟨y1, y2⟩ := ev_ok h ho hy
            obtain ⟨c1, hr⟩ := rowOf_ok (gs := gs) y2 hv
            obtain ⟨hh, hrb⟩ := H.has k tb rb hb
            refine store_any hg hop hd p1 (by rw [y1, c1]) hr hi hc.2.1 hh hrb hc.2.2 hl he ?_
            exact hK _ _ _ ⟨[], (List.append_nil _).symm⟩ h ho hm rfl (H.set hb hc.1 (hh.row _) (ok_app (ok_app (part_ok hrb hl).2.1 hr) (part_ok hrb he).2.1) ⟨rfl, rfl, rfl, by simp, fun j hj hne => setRow_other x _ j _ hne⟩)
          · cases h1
        · cases h1
      · cases h1
    · cases h1
  · split at h1
    · rename_i v q5 o5 h5
      injection h1 with h1
      injection h1 with e1 e2
      injection e2 with e2 e3
      injection e3 with e3 e4
      subst e1 e2 e4
      obtain ⟨ov, hs⟩ := stepR_ok hC h ho ⟨x, hG _ H.bel, H.bk⟩ h5 hH
      refine wpList_quiet (hs (fun z => z = x) (fun z hz => by subst hz; exact ⟨hG _ H.bel, H.bk⟩)) (fun z hz => ?_)
      exact hK _ _ _ ⟨[], (List.append_nil _).symm⟩ (sl_put h) (sok_put ho ov) hm (hput _) (H.keep hz)
    · cases h1
theorem seq_ok (hC : CxOk P C G) (hG : ∀ u, RowKit.Below S w u → G u) : ∀ {l : List Oper} {sl : List AV} {bs : List Bk} {q : List Bool} {gs : List Nat} {a : Act} {x : World} {sl2 : List AV} {bs2 : List Bk} {q2 : List Bool} {obs : List Ob},
    seqS P C m ops l sl bs q = some (sl2, bs2, q2, obs) → Sl gs sl a → SOk gs.length sl → m ≤ gs.length → Wd S w m gs bs x → Holds obs →
    (∀ gs' a' x', (∃ e, gs' = gs ++ e) → Sl gs' sl2 a' → SOk gs'.length sl2 → m ≤ gs'.length → a'.defers = a.defers → Wd S w m gs' bs2 x' → Q .normal a' x') → wpList P ops Q l a x
  | [], sl, bs, q, gs, a, x, sl2, bs2, q2, obs, he, h, ho, hm, H, hH, hK => by
    injection he with he
    injection he with e1 e2
    injection e2 with e2 e3
    subst e1 e2
    exact hK gs a x ⟨[], (List.append_nil _).symm⟩ h ho hm rfl H
  | o :: l, sl, bs, q, gs, a, x, sl2, bs2, q2, obs, he, h, ho, hm, H, hH, hK => by
    unfold seqS at he
    split at he
    · cases he
    · rename_i sl1 bs1 q1 o1 h1
      split at he
      · cases he
      · rename_i sl3 bs3 q3 o3 h2
        injection he with he
        injection he with e1 e2
        injection e2 with e2 e3
        injection e3 with e3 e4
        subst e1 e2 e3 e4
        obtain ⟨ha, hbb⟩ := holds_app hH
        have step : ∀ o', stepS0 P C m ops sl bs q o' = some (sl1, bs1, q1, o1) → wpList P ops Q (o' :: l) a x := fun o' h0 =>
          one_ok hC hG h0 h ho hm H ha (fun gs' a' x' pe p1 p2 p3 p4 p5 => seq_ok hC hG h2 p1 p2 p3 p5 hbb (fun gs2 a2 x2 pe2 r1 r2 r3 r4 r5 => hK gs2 a2 x2 (by
            obtain ⟨e, rfl⟩ := pe
            obtain ⟨e', rfl⟩ := pe2
            exact ⟨_, List.append_assoc ..⟩) r1 r2 r3 (r4.trans p4) r5))
        unfold stepS at h1
        split at h1
        · exact step o h1
        · split at h1
          · rename_i hw
            exact wpList_unguard (want_ok h hw) (step _ h1)
          · rename_i hw
            injection h1 with h1
            injection h1 with e1 e2
            injection e2 with e2 e3
            injection e3 with e3 e4
            subst e1 e2 e4
            have hwt := want_ok (a := a) h hw
            unfold wpList
            rw [hwt, if_neg (by decide)]
            exact seq_ok hC hG h2 (sl_put h) (sok_put ho trivial) hm H hbb (fun gs' a' x' pe p1 p2 p3 p4 p5 => hK gs' a' x' pe p1 p2 p3 (p4.trans (by cases o.dst <;> rfl)) p5)
          · cases h1
end
end Go.Proofs.YtpkbbdhpdplkeaaDoor.Sx
