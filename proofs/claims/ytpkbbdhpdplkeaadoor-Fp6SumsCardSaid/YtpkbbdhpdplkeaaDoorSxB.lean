/-
  Own text. A reckoner of straight code, second part: what an operation yields.
-/
import Derived.Test.YtpkbbdhpdplkeaaDoorSxA
namespace Go.Proofs.YtpkbbdhpdplkeaaDoor.Sx
set_option linter.unusedVariables false
set_option linter.unusedSimpArgs false
set_option linter.unusedSectionVars false
open Go Go.RowKit Go.Proofs.YtpkbbdhpdplkeaaDoor.Reg Go.Proofs.YtpkbbdhpdplkeaaDoor.Limb Go.Proofs.YtpkbbdhpdplkeaaDoor.Fp2
abbrev Bk := TypeId × Row
def BOk (gs : List Nat) (bl : Nat → Option Bk) (u : World) : Prop := ∀ k t r, bl k = some (t, r) → Has u (gs.getD k 0) t (den r).toArray ∧ Ok r
def ev (sl : List AV) : Operand → Option AV
  | .tmp t => match sl[t]? with
    | some .unk => none
    | r => r
  | .const v => some (.val v)
  | .func f => some (.val (.func (.func f) #[] #[]))
  | .global _ => none
def evs (sl : List AV) : List Operand → Option (List AV)
  | [] => some []
  | x :: r => match ev sl x, evs sl r with
    | some v, some vs => some (v :: vs)
    | _, _ => none
/-- The slots hold these values. -/
def Sl (gs : List Nat) (sl : List AV) (a : Act) : Prop := a.tmps.size = sl.length ∧ ∀ (i : Nat) (v : AV), sl[i]? = some v → v ≠ .unk → a.tmps[i]? = some (v.den gs)
theorem Sl.of_eq {gs : List Nat} {sl : List AV} {a : Act} (h : a.tmps = (sl.map (AV.den gs)).toArray) : Sl gs sl a := ⟨by rw [h]; simp, fun i v hi _ => by rw [h]; simp [List.getElem?_map, hi]⟩
theorem ev_tmp {sl : List AV} {t : Nat} {v : AV} (h : sl[t]? = some v) (hv : v ≠ .unk) : ev sl (.tmp t) = some v := by
  simp only [ev, h]
  cases v <;> first | rfl | exact absurd rfl hv
theorem tmp_ev {sl : List AV} {t : Nat} {v : AV} (h : ev sl (.tmp t) = some v) : sl[t]? = some v ∧ v ≠ .unk := by
  simp only [ev] at h
  split at h
  · cases h
  · rename_i hne
    exact ⟨h, fun e => hne (by rw [h, e])⟩
def SOk (n : Nat) (sl : List AV) : Prop := ∀ v ∈ sl, v.Ok n
section
variable {gs : List Nat} {sl : List AV} {a : Act}
theorem ev_ok (h : Sl gs sl a) (ho : SOk gs.length sl) {x : Operand} {v : AV} (he : ev sl x = some v) : a.eval x = v.den gs ∧ v.Ok gs.length := by
  cases x with
  | tmp t =>
    obtain ⟨he, hne⟩ := tmp_ev he
    refine ⟨?_, ho v (List.mem_of_getElem? he)⟩
    have := h.2 t v he hne
    simp [Act.eval, this]
  | const c => obtain rfl := Option.some.inj he; exact ⟨rfl, trivial⟩
  | func f => obtain rfl := Option.some.inj he; exact ⟨rfl, trivial⟩
  | global g => cases he
theorem evs_ok (h : Sl gs sl a) (ho : SOk gs.length sl) : ∀ {xs : List Operand} {vs : List AV}, evs sl xs = some vs → xs.map a.eval = vs.map (AV.den gs) ∧ ∀ v ∈ vs, v.Ok gs.length
  | [], vs, he => by obtain rfl := Option.some.inj he; exact ⟨rfl, by simp⟩
  | x :: r, vs, he => by
    unfold evs at he
    split at he
    · rename_i v vs' h1 h2
      obtain rfl := Option.some.inj he
      obtain ⟨e1, o1⟩ := ev_ok h ho h1
      obtain ⟨e2, o2⟩ := evs_ok h ho h2
      exact ⟨by rw [List.map_cons, List.map_cons, e1, e2], fun u hu => by
        rcases List.mem_cons.1 hu with rfl | hu
        · exact o1
        · exact o2 u hu⟩
    · cases he
end
/-- What a call of a function yields, of what is in its blocks and of its arguments. -/
abbrev Ent := Program → (Nat → Option Bk) → List AV → Option AV
structure EOk (P : Program) (G : World → Prop) (F : FuncId) (e : Ent) : Prop where
  enter : ∀ args w, (callFunc F args).run P w = .ok (.enter F args) w
  ok : ∀ bl args v (gs : List Nat), e P bl args = some v → (∀ a ∈ args, a.Ok gs.length) →
    ∀ w, G w → BOk gs bl w → v.Ok gs.length ∧ Calls P F (args.map (AV.den gs)).toArray w fun e w' => e = .returned (v.den gs) ∧ Below w.heap.size w w'
abbrev Tbl := List (FuncId × Ent)
def look : Tbl → FuncId → Option Ent
  | [], _ => none
  | (F, e) :: T, f => if F = f then some e else look T f
def TOk (P : Program) (G : World → Prop) : Tbl → Prop
  | [] => True
  | (F, e) :: T => EOk P G F e ∧ TOk P G T
theorem look_ok {P : Program} {G : World → Prop} : ∀ {T : Tbl} {F : FuncId} {e : Ent}, TOk P G T → look T F = some e → EOk P G F e
  | [], _, _, _, h => by cases h
  | (F', e') :: T, F, e, hT, h => by
    unfold look at h
    split at h
    · rename_i hf
      subst hf
      obtain rfl := Option.some.inj h
      exact hT.1
    · exact look_ok hT.2 h
def cel : Row → Nat → Option Value
  | [], _ => none
  | s :: ss, off => if s.size ≤ off then cel ss (off - s.size) else match s with
    | .nums _ xs => some (.int .u64 (nth xs off))
    | .one v => some v
theorem cel_ok : ∀ {r : Row} {off : Nat} {v : Value}, Ok r → cel r off = some v → (den r)[off]? = some v
  | [], _, _, _, h => by cases h
  | s :: ss, off, v, ho, h => by
    unfold cel at h
    split at h
    · rename_i hs
      rw [den, List.getElem?_append_right (by rw [s.len ho.1]; exact hs), s.len ho.1]
      exact cel_ok ho.2 h
    · rename_i hs
      rw [den, List.getElem?_append_left (by rw [s.len ho.1]; omega)]
      cases s with
      | nums n xs =>
        obtain rfl := Option.some.inj h
        have hx : Nm n xs := ho.1
        have : off < xs.length := by rw [hx.len]; simp only [Sg.size] at hs; omega
        simp [Sg.den, nth, this]
      | one u =>
        obtain rfl := Option.some.inj h
        simp only [Sg.size] at hs
        obtain rfl : off = 0 := by omega
        rfl
/-- What a value puts into a row. -/
def rowOf : AV → Option Row
  | .agg r => some r
  | .val v => if v.oneCell' then some (cmp [v]) else none
  | .num .u64 x => some [.nums 1 [x]]
  | .num k x => some [.one (.int k x)]
  | _ => none
theorem rowOf_ok {v : AV} {r : Row} {gs : List Nat} {n : Nat} (ho : v.Ok n) (h : rowOf v = some r) : (v.den gs).cells = (den r).toArray ∧ Ok r := by
  cases v with
  | agg q =>
    obtain rfl := Option.some.inj h
    exact ⟨rfl, ho⟩
  | val v =>
    simp only [rowOf] at h
    split at h
    · rename_i hc
      obtain rfl := Option.some.inj h
      refine ⟨?_, cmp_ok [v] (by simp [hc])⟩
      rw [cmp_den]
      cases v <;> first | rfl | simp [Value.oneCell'] at hc
    · cases h
  | num k x =>
    by_cases hk : k = .u64
    · subst hk
      obtain rfl := Option.some.inj h
      have := ho rfl
      exact ⟨rfl, ⟨rfl, words_of _ (by
        intro i hi
        have : i = 0 := by simpa using hi
        subst this
        simp [nth]
        omega)⟩, trivial⟩
    · have : r = [.one (.int k x)] := by
        unfold rowOf at h
        split at h <;> first | exact absurd rfl hk | (cases h; done) | skip
        all_goals simp_all
      subst this
      exact ⟨rfl, rfl, trivial⟩
  | _ => cases h
def fillS (place : Nat → Option (Nat × Nat)) : Row → List (Nat × AV) → Option Row
  | r, [] => some r
  | r, (i, v) :: rest => match place i, rowOf v with
    | some (off, n), some s => if sz s = n ∧ off + n ≤ sz r then (match part r 0 off, part r (off + n) (sz r - (off + n)) with
        | some b, some e => fillS place (b ++ s ++ e) rest
        | _, _ => none) else none
    | _, _ => none
theorem fold_cells : ∀ (xs : List Value) (off j : Nat) (cs : List Value), off + j + xs.length ≤ cs.length →
    (xs.zipIdx j).foldl (fun (a : Array Value) (x : Value × Nat) => a.setIfInBounds (off + x.2) x.1) cs.toArray = (cs.take (off + j) ++ xs ++ cs.drop (off + j + xs.length)).toArray
  | [], off, j, cs, _ => by simp
  | x :: xs, off, j, cs, h => by
    simp only [List.length_cons] at h
    simp only [List.zipIdx_cons, List.foldl_cons]
    rw [List.setIfInBounds_toArray, fold_cells xs off (j + 1) (cs.set (off + j) x) (by rw [List.length_set]; omega)]
    congr 1
    rw [show off + (j + 1) = off + j + 1 by omega, List.take_set, List.drop_set, if_pos (by omega)]
    rw [List.set_eq_take_append_cons_drop]
    have hl : (cs.take (off + j + 1)).length = off + j + 1 := by rw [List.length_take]; omega
    rw [if_pos (by omega), List.take_take, Nat.min_eq_left (by omega), List.drop_eq_nil_of_le (by omega)]
    simp only [List.length_cons, List.append_assoc, List.cons_append, List.nil_append]
    rw [show off + j + 1 + xs.length = off + j + (xs.length + 1) by omega]
theorem fillS_ok {place : Nat → Option (Nat × Nat)} {gs : List Nat} {n : Nat} : ∀ {ps : List (Nat × AV)} {r out : Row}, Ok r → (∀ p ∈ ps, p.2.Ok n) → fillS place r ps = some out →
    Instr.fill place (den r).toArray (ps.map fun p => (p.1, p.2.den gs)) = some (den out).toArray ∧ Ok out
  | [], r, out, ho, _, h => by
    obtain rfl := Option.some.inj h
    exact ⟨rfl, ho⟩
  | (i, v) :: rest, r, out, ho, hp, h => by
    unfold fillS at h
    split at h
    · rename_i off m s h1 h2
      split at h
      · rename_i hc
        split at h
        · rename_i b e h3 h4
          obtain ⟨c1, o1⟩ := rowOf_ok (gs := gs) (hp (i, v) (by simp)) h2
          obtain ⟨b1, ob, zb⟩ := part_ok ho h3
          obtain ⟨e1, oe, ze⟩ := part_ok ho h4
          have ih := fillS_ok (gs := gs) (ok_app (ok_app ob o1) oe) (fun p hp' => hp p (List.mem_cons_of_mem _ hp')) h
          refine ⟨?_, ih.2⟩
          rw [List.map_cons, Instr.fill, h1]
          have hs : ((v.den gs).cells).size = m := by rw [c1, List.size_toArray, den_len o1]; exact hc.1
          have hl := den_len ho
          simp only [hs]
          rw [if_neg (by simp [hl]; omega), c1, ← Array.foldl_toList, Array.toList_zipIdx, List.toList_toArray]
          have hf := fold_cells (den s) off 0 (den r) (by rw [den_len o1, hl]; omega)
          have hd : List.take (sz r - (off + m)) (List.drop (off + m) (den r)) = List.drop (off + m) (den r) := List.take_of_length_le (by rw [List.length_drop, hl]; omega)
          rw [hf, ← ih.1, den_app, den_app, ← b1, ← e1, Nat.add_zero, den_len o1, hc.1, List.drop_zero, hd]
        · cases h
      · cases h
    · cases h
def zrow (z : Value) : Option Row := if z.cells.toList.all (·.oneCell') then some (cmp z.cells.toList) else none
theorem zrow_ok {z : Value} {r : Row} (h : zrow z = some r) : (den r).toArray = z.cells ∧ Ok r := by
  unfold zrow at h
  split at h
  · rename_i hc
    obtain rfl := Option.some.inj h
    exact ⟨by rw [cmp_den], cmp_ok _ hc⟩
  · cases h
def bld (P : Program) (t : TypeId) (ps : List (Nat × AV)) : Option Row :=
  match P.info? t, P.underlying t with
  | some it, some (.array _ e) =>
    match it.zero.bind zrow, P.info? e with
    | some z, some ie => fillS (fun i => some (i * ie.size, ie.size)) z ps
    | _, _ => none
  | some it, some (.struct fields) =>
    match it.zero.bind zrow, fields.toList.mapM (fun f => (P.info? f.type).map fun i => (f.offset, i.size)) with
    | some z, some places => fillS (places.toArray[·]?) z ps
    | _, _ => none
  | _, _ => none
theorem bld_ok {P : Program} {t : TypeId} {ps : List (Nat × AV)} {out : Row} {gs : List Nat} {n : Nat} (hp : ∀ p ∈ ps, p.2.Ok n) (h : bld P t ps = some out) : P.built t (ps.map fun p => (p.1, p.2.den gs)) = some (den out).toArray ∧ Ok out := by
  unfold bld at h
  unfold Program.built
  split at h
  · rename_i it len e h1 h2
    split at h
    · rename_i z ie h3 h4
      obtain ⟨z0, hz, hr⟩ := Option.bind_eq_some_iff.1 h3
      obtain ⟨e1, o1⟩ := zrow_ok hr
      have := fillS_ok (gs := gs) o1 hp h
      simp only [h1, h2, hz, h4]
      rw [← e1]
      exact this
    · cases h
  · rename_i it fields h1 h2
    split at h
    · rename_i z places h3 h4
      obtain ⟨z0, hz, hr⟩ := Option.bind_eq_some_iff.1 h3
      obtain ⟨e1, o1⟩ := zrow_ok hr
      have := fillS_ok (gs := gs) o1 hp h
      simp only [h1, h2, hz, h4]
      rw [← e1]
      exact this
    · cases h
  · cases h
end Go.Proofs.YtpkbbdhpdplkeaaDoor.Sx
