/-
  Own text. A reckoner of straight code, third part: operations that yield a value; rows of them.
-/
import Derived.Test.YtpkbbdhpdplkeaaDoorSxB
namespace Go.Proofs.YtpkbbdhpdplkeaaDoor.Sx
set_option linter.unusedVariables false
set_option linter.unusedSimpArgs false
set_option linter.unusedSectionVars false
open Go Go.RowKit Go.Proofs.YtpkbbdhpdplkeaaDoor.Reg Go.Proofs.YtpkbbdhpdplkeaaDoor.Limb Go.Proofs.YtpkbbdhpdplkeaaDoor.Fp2
def ptrs : List AV → Option (List Nat)
  | [] => some []
  | .ptr k 0 :: r => (ptrs r).map (k :: ·)
  | _ => none
def evp (sl : List AV) : List (Nat × Operand) → Option (List (Nat × AV))
  | [] => some []
  | (i, x) :: r => match ev sl x, evp sl r with
    | some v, some vs => some ((i, v) :: vs)
    | _, _ => none
/-- Numbers and truths compared; whole numbers added. -/
def scal (P : Program) (t : TypeId) : BinOp → Value → Value → Option Value
  | .eql, .int k a, .int k' b => if k = k' then some (.bool (a == b)) else none
  | .neq, .int k a, .int k' b => if k = k' then some (.bool (a != b)) else none
  | .lss, .int k a, .int k' b => if k = k' then some (.bool (decide (a < b))) else none
  | .leq, .int k a, .int k' b => if k = k' then some (.bool (decide (a ≤ b))) else none
  | .gtr, .int k a, .int k' b => if k = k' then some (.bool (decide (b < a))) else none
  | .geq, .int k a, .int k' b => if k = k' then some (.bool (decide (b ≤ a))) else none
  | .add, .int k a, .int k' b => if k = k' then some (.int k (k.wrap (a + b))) else none
  | .sub, .int k a, .int k' b => if k = k' then some (.int k (k.wrap (a - b))) else none
  | .mul, .int k a, .int k' b => if k = k' then some (.int k (k.wrap (a * b))) else none
  | .eql, .bool a, .bool b => match P.underlying t with
    | some .bool => some (.bool (a == b))
    | _ => none
  | .neq, .bool a, .bool b => match P.underlying t with
    | some .bool => some (.bool (a != b))
    | _ => none
  | _, _, _ => none
theorem bool_eq {P : Program} {t : TypeId} (h : P.underlying t = some .bool) (x y : Operand) (a b : Bool) (w : World) : ((do eqGuard .eql t x y (.bool a) (.bool b); binOp .eql t (.bool a) (.bool b)) : Sem Value).run P w = .ok (.bool (a == b)) w := by
  have h1 : (eqGuard .eql t x y (.bool a) (.bool b)).run P w = .ok () w := by simp [eqGuard]
  have h2 : (binOp .eql t (.bool a) (.bool b)).run P w = ((Op.equalIn 10000 t (.bool a) (.bool b)).run P w).andThen fun b w' => .ok (.bool b) w' := by
    show (do pure (Value.bool (← Op.equal t (.bool a) (.bool b))) : Sem Value).run P w = _
    simp only [Op.equal, Op.maxDepth, Sem.run_bind, Sem.run_pure]
  rw [Sem.run_bind, h1, Result.andThen_ok, h2, run_equalIn_bool w 9999 t a b h, Result.andThen_ok]
theorem bool_ne {P : Program} {t : TypeId} (h : P.underlying t = some .bool) (x y : Operand) (a b : Bool) (w : World) : ((do eqGuard .neq t x y (.bool a) (.bool b); binOp .neq t (.bool a) (.bool b)) : Sem Value).run P w = .ok (.bool (a != b)) w := by
  have h1 : (eqGuard .neq t x y (.bool a) (.bool b)).run P w = .ok () w := by simp [eqGuard]
  have h2 : (binOp .neq t (.bool a) (.bool b)).run P w = ((Op.equalIn 10000 t (.bool a) (.bool b)).run P w).andThen fun b w' => .ok (.bool (!b)) w' := by
    show (do pure (Value.bool (!(← Op.equal t (.bool a) (.bool b)))) : Sem Value).run P w = _
    simp only [Op.equal, Op.maxDepth, Sem.run_bind, Sem.run_pure]
  rw [Sem.run_bind, h1, Result.andThen_ok, h2, run_equalIn_bool w 9999 t a b h, Result.andThen_ok]
  rfl
theorem scal_ok {P : Program} {op : BinOp} {t : TypeId} {x y : Operand} {a b v : Value} (h : scal P t op a b = some v) (w : World) : ((do eqGuard op t x y a b; binOp op t a b) : Sem Value).run P w = .ok v w := by
  unfold scal at h
  split at h
  all_goals first
    | cases h
    | (split at h
       · rename_i hk
         subst hk
         obtain rfl := Option.some.inj h
         simp [eqGuard, binOp, Op.intCmp, Op.intArith]
         done
       · cases h)
    | (split at h
       · rename_i hk
         obtain rfl := Option.some.inj h
         first
           | exact bool_eq hk _ _ _ _ w
           | exact bool_ne hk _ _ _ _ w
       · cases h)
def evalV (P : Program) (T : Tbl) (bl : Nat → Option Bk) (sl : List AV) : Op → Option AV
  | .move x => ev sl x
  | .assign x => ev sl x
  | .pick c x y => match ev sl c, ev sl x, ev sl y with
    | some (.val (.bool true)), some v, some _ => some v
    | some (.val (.bool false)), some _, some v => some v
    | _, _, _ => none
  | .unOp .not _ x => match ev sl x with
    | some (.val (.bool b)) => some (.val (.bool (!b)))
    | _ => none
  | .binOp op t x y _ => match ev sl x, ev sl y with
    | some (.val a), some (.val b) => (scal P t op a b).map .val
    | _, _ => none
  | .fieldAddr t x f => match ev sl x, P.underlying t with
    | some (.ptr k off), some (.struct fields) => match fields[f]? with
      | some fd => match P.info? fd.type with
        | some i => if i.size = 0 then none else some (.ptr k (off + fd.offset))
        | none => none
      | none => none
    | _, _ => none
  | .indexAddr t x ix => match ev sl x, ev sl ix, P.underlying t with
    | some (.ptr k off), some (.val (.int _ i)), some (.array len e) => match P.info? e with
      | some ie => if 0 ≤ i ∧ i < len then some (.ptr k (off + i.toNat * ie.size)) else none
      | none => none
    | some (.slc k off n c), some (.val (.int _ i)), some (.slice e) => match P.info? e with
      | some ie => if 0 ≤ i ∧ i < n then some (.ptr k (off + i.toNat * ie.size)) else none
      | none => none
    | _, _, _ => none
  | .load t x => match ev sl x, P.underlying t, P.info? t with
    | some (.ptr k off), some d, some i => match bl k with
      | some (_, r) => if d.isRow then (part r off i.size).map .agg else (cel r off).map .val
      | none => none
    | _, _, _ => none
  | .build t ps => match evp sl ps.toList with
    | some vs => (bld P t vs).map .agg
    | none => none
  | .extract x i => match ev sl x with
    | some (.tup vs) => vs[i]?.map TV.av
    | _ => none
  | .makeFunc (.func f) first caps => if first.size = 0 then (match evs sl caps.toList with
    | some vs => (ptrs vs).map (.fn f)
    | none => none) else none
  | .call c => match c.callee with
    | .value g => match ev sl g, evs sl c.args.toList with
      | some (.val (.func (.func F) first caps)), some vs => if first.size = 0 ∧ caps.size = 0 then (match look T F with
        | some e => e P bl vs
        | none => none) else none
      | some (.fn F caps), some vs => match look T F with
        | some e => e P bl (vs ++ caps.map (.ptr · 0))
        | none => none
      | _, _ => none
    | .builtin .len => match c.argTypes[0]?.bind P.underlying, evs sl c.args.toList with
      | some (.slice _), some [.slc _ _ n _] => some (.val (.int .i64 n))
      | some (.slice _), some [.val (.slice _ n _)] => some (.val (.int .i64 n))
      | _, _ => none
    | _ => none
  | _ => none
theorem ptrs_ok {gs : List Nat} {n : Nat} : ∀ {vs : List AV} {ks : List Nat}, (∀ v ∈ vs, v.Ok n) → ptrs vs = some ks → vs.map (AV.den gs) = ks.map (fun k => .pointer (some ⟨gs.getD k 0, 0, none⟩)) ∧ ∀ k ∈ ks, k < n
  | [], ks, _, h => by obtain rfl := Option.some.inj h; exact ⟨rfl, by simp⟩
  | v :: r, ks, ho, h => by
    unfold ptrs at h
    split at h
    · cases ‹_ = ([] : List AV)›
    · rename_i k r' heq
      obtain ⟨rfl, rfl⟩ := List.cons.inj heq
      obtain ⟨ks', hk, rfl⟩ := Option.map_eq_some_iff.1 h
      obtain ⟨e1, o1⟩ := ptrs_ok (fun u hu => ho u (List.mem_cons_of_mem _ hu)) hk
      refine ⟨by rw [List.map_cons, List.map_cons, e1]; rfl, fun j hj => ?_⟩
      rcases List.mem_cons.1 hj with rfl | hj
      · exact ho (.ptr _ 0) (by simp)
      · exact o1 j hj
    · cases h
section
variable {P : Program} {G : World → Prop} {T : Tbl} {gs : List Nat} {sl : List AV} {a : Act} {bl : Nat → Option Bk} {u : World}
theorem evp_ok (h : Sl gs sl a) (ho : SOk gs.length sl) : ∀ {xs : List (Nat × Operand)} {vs : List (Nat × AV)}, evp sl xs = some vs → xs.map (fun p => (p.1, a.eval p.2)) = vs.map (fun p => (p.1, p.2.den gs)) ∧ ∀ p ∈ vs, p.2.Ok gs.length
  | [], vs, he => by obtain rfl := Option.some.inj he; exact ⟨rfl, by simp⟩
  | (i, x) :: r, vs, he => by
    unfold evp at he
    split at he
    · rename_i v vs' h1 h2
      obtain rfl := Option.some.inj he
      obtain ⟨e1, o1⟩ := ev_ok h ho h1
      obtain ⟨e2, o2⟩ := evp_ok h ho h2
      exact ⟨by rw [List.map_cons, List.map_cons, e1, e2], fun u hu => by
        rcases List.mem_cons.1 hu with rfl | hu
        · exact o1
        · exact o2 u hu⟩
    · cases he
theorem add_at (g off n : Nat) : (⟨g, off, none⟩ : Addr).add n = ⟨g, off + n, none⟩ := by
  unfold Addr.add
  split
  · rename_i h; subst h; rfl
  · rfl
theorem load_row {x : World} {g t ty n off : Nat} {r out : Row} {d : TypeDesc} {i : TypeInfo} (hh : Has x g t (Sx.den r).toArray) (ho : Ok r) (hu : P.underlying ty = some d) (hd : d.isRow = true) (hi : P.info? ty = some i) (hp : part r off i.size = some out) : (loadVar ty ⟨g, off, none⟩).run P x = .ok (.agg (Sx.den out).toArray) x := by
  obtain ⟨e1, o1, z1⟩ := part_ok ho hp
  refine run_loadVar_mid x g off ty (Sx.den out) d (fun j v hv => ?_) hu hd (by rw [hi, den_len o1, z1]; rfl)
  rw [← e1, List.getElem?_take] at hv
  split at hv
  · rw [List.getElem?_drop] at hv
    rw [hh.cell]
    simpa using hv
  · cases hv
theorem load_cel {x : World} {g t ty off : Nat} {r : Row} {v : Value} {d : TypeDesc} (hh : Has x g t (Sx.den r).toArray) (ho : Ok r) (hu : P.underlying ty = some d) (hd : d.isRow = false) (hc : cel r off = some v) : (loadVar ty ⟨g, off, none⟩).run P x = .ok v x := by
  have hagg : (isAgg ty).run P x = .ok false x := by
    unfold isAgg
    rw [Sem.run_bind, run_underlying hu x]
    cases d <;> first | rfl | (simp [TypeDesc.isRow] at hd)
  have hcell := hh.cell off
  rw [show (Sx.den r).toArray[off]? = some v by simpa using cel_ok ho hc] at hcell
  simp [loadVar, Sem.run_bind, hagg, hcell]
/-- What the reckoner says is what the operation yields, in every world that has these blocks. -/
theorem evalV_ok (hT : TOk P G T) (h : Sl gs sl a) (ho : SOk gs.length sl) {o : Oper} {v : AV} (h0 : ∃ u, G u ∧ BOk gs bl u) (he : evalV P T bl sl o.op = some v) :
    v.Ok gs.length ∧ ∀ u, G u → BOk gs bl u → o.quietAt P a (fun z => RowKit.Below u.heap.size u z) u (v.den gs) := by
  obtain ⟨u0, hg0, hb0⟩ := h0
  unfold Oper.quietAt execOp
  unfold evalV at he
  split at he
  · rename_i x hop
    obtain ⟨e1, o1⟩ := ev_ok h ho he
    exact ⟨o1, fun u _ _ => by simp [hop, e1, Oper.quietUpon]⟩
  · rename_i x hop
    obtain ⟨e1, o1⟩ := ev_ok h ho he
    exact ⟨o1, fun u _ _ => by simp [hop, e1, Oper.quietUpon]⟩
  · rename_i c x y hop
    split at he
    · rename_i v1 v2 h1 h2 h3
      obtain rfl := Option.some.inj he
      obtain ⟨e1, o1⟩ := ev_ok h ho h1
      obtain ⟨e2, o2⟩ := ev_ok h ho h2
      exact ⟨o2, fun u _ _ => by simp [hop, e1, e2, AV.den, asBool, Oper.quietUpon]⟩
    · rename_i v1 v2 h1 h2 h3
      obtain rfl := Option.some.inj he
      obtain ⟨e1, o1⟩ := ev_ok h ho h1
      obtain ⟨e3, o3⟩ := ev_ok h ho h3
      exact ⟨o3, fun u _ _ => by simp [hop, e1, e3, AV.den, asBool, Oper.quietUpon]⟩
    · cases he
  · rename_i t x hop
    split at he
    · rename_i b h1
      obtain rfl := Option.some.inj he
      obtain ⟨e1, o1⟩ := ev_ok h ho h1
      exact ⟨trivial, fun u _ _ => by simp [hop, e1, AV.den, Op.unary, Oper.quietUpon]⟩
    · cases he
  · rename_i op t x y r hop
    split at he
    · rename_i a1 b1 h1 h2
      obtain ⟨v1, hv, rfl⟩ := Option.map_eq_some_iff.1 he
      obtain ⟨e1, o1⟩ := ev_ok h ho h1
      obtain ⟨e2, o2⟩ := ev_ok h ho h2
      refine ⟨trivial, fun u _ _ => ?_⟩
      have hr := scal_ok (P := P) (t := t) (x := x) (y := y) hv u
      simp only [hop, e1, e2, AV.den]
      rw [Sem.run_bind, hr]
      simp [Oper.quietUpon]
    · cases he
  · rename_i t x f hop
    split at he
    · rename_i k off fields h1 h2
      split at he
      · rename_i fd h3
        split at he
        · rename_i i h4
          split at he
          · cases he
          · rename_i h5
            obtain rfl := Option.some.inj he
            obtain ⟨e1, o1⟩ := ev_ok h ho h1
            refine ⟨o1, fun u _ _ => ?_⟩
            simp [hop, e1, AV.den, Instr.fieldAt, run_underlying h2, h3, Instr.sureAddr, fieldPlace, sizeOf, typeInfo, h4, h5, Oper.quietUpon, add_at]
        · cases he
      · cases he
    · cases he
  · rename_i t x ix hop
    split at he
    · rename_i k off kk i len e h1 h2 h3
      split at he
      · rename_i ie h4
        split at he
        · rename_i hc
          obtain rfl := Option.some.inj he
          obtain ⟨e1, o1⟩ := ev_ok h ho h1
          obtain ⟨e2, o2⟩ := ev_ok h ho h2
          refine ⟨o1, fun u _ _ => ?_⟩
          simp [hop, e1, e2, AV.den, Instr.indexAt, run_underlying h3, Instr.sureAddr, asIntOf, sizeOf, typeInfo, h4, hc, Oper.quietUpon, add_at]
        · cases he
      · cases he
    · rename_i k off n c kk i e h1 h2 h3
      split at he
      · rename_i ie h4
        split at he
        · rename_i hc
          obtain rfl := Option.some.inj he
          obtain ⟨e1, o1⟩ := ev_ok h ho h1
          obtain ⟨e2, o2⟩ := ev_ok h ho h2
          refine ⟨o1, fun u _ _ => ?_⟩
          simp [hop, e1, e2, AV.den, Instr.indexAt, run_underlying h3, asIntOf, sizeOf, typeInfo, h4, hc, Oper.quietUpon, add_at]
        · cases he
      · cases he
    · cases he
  · rename_i t x hop
    split at he
    · rename_i k off d i h1 h2 h3
      split at he
      · rename_i tt r h4
        obtain ⟨e1, o1⟩ := ev_ok h ho h1
        split at he
        · rename_i hd
          obtain ⟨out, hp, rfl⟩ := Option.map_eq_some_iff.1 he
          refine ⟨(part_ok (hb0 _ _ _ h4).2 hp).2.1, fun u _ hB => ?_⟩
          have hr := load_row (hB _ _ _ h4).1 (hB _ _ _ h4).2 h2 hd h3 hp (n := 0)
          rw [List.getD_eq_getElem?_getD] at hr
          simp [hop, e1, AV.den, Instr.loadAt, Instr.sureAddr, hr, Oper.quietUpon]
        · rename_i hd
          obtain ⟨w, hp, rfl⟩ := Option.map_eq_some_iff.1 he
          refine ⟨trivial, fun u _ hB => ?_⟩
          have hr := load_cel (hB _ _ _ h4).1 (hB _ _ _ h4).2 h2 (by simpa using hd) hp
          rw [List.getD_eq_getElem?_getD] at hr
          simp [hop, e1, AV.den, Instr.loadAt, Instr.sureAddr, hr, Oper.quietUpon]
      · cases he
    · cases he
  · rename_i t ps hop
    split at he
    · rename_i vs h1
      obtain ⟨out, hp, rfl⟩ := Option.map_eq_some_iff.1 he
      obtain ⟨e1, o1⟩ := evp_ok h ho h1
      obtain ⟨e2, o2⟩ := bld_ok (gs := gs) o1 hp
      refine ⟨o2, fun u _ _ => ?_⟩
      have hr := run_build u t (ps.map fun p => (p.1, a.eval p.2)) _ (by rw [Array.toList_map, e1]; exact e2)
      simp [hop, AV.den, hr, Oper.quietUpon]
    · cases he
  · rename_i x i hop
    split at he
    · rename_i vs h1
      obtain ⟨tv, hp, rfl⟩ := Option.map_eq_some_iff.1 he
      obtain ⟨e1, o1⟩ := ev_ok h ho h1
      have hv := TV.okL_get o1 hp
      refine ⟨by cases tv <;> first | exact hv | trivial, fun u _ _ => ?_⟩
      cases tv <;> simp [hop, e1, AV.den, TV.den, TV.av, Instr.extract, hp, Oper.quietUpon]
    · cases he
  · rename_i f first caps hop
    split at he
    · rename_i hf
      split at he
      · rename_i vs h1
        obtain ⟨ks, hp, rfl⟩ := Option.map_eq_some_iff.1 he
        obtain ⟨e1, o1⟩ := evs_ok h ho h1
        obtain ⟨e2, o2⟩ := ptrs_ok (gs := gs) o1 hp
        refine ⟨o2, fun u _ _ => ?_⟩
        have hf' : first = #[] := Array.eq_empty_of_size_eq_zero hf
        have hc : caps.map a.eval = (ks.map (fun k => Value.pointer (some ⟨gs.getD k 0, 0, none⟩))).toArray := by
          rw [← e2, ← e1, ← Array.toList_map]
        have hmf : ∀ (fn : Fn) (first cap : Array Value) (w : World), (Instr.makeFunc fn first cap).run P w = .ok (.func fn first cap) w := fun _ _ _ _ => rfl
        simp [hop, AV.den, hf', hc, hmf, Oper.quietUpon]
      · cases he
    · cases he
  · rename_i c hop
    split at he
    · rename_i g hg
      split at he
      · rename_i F first caps vs h1 h2
        split at he
        · rename_i hc
          split at he
          · rename_i e h3
            obtain ⟨e1, o1⟩ := ev_ok h ho h1
            obtain ⟨e2, o2⟩ := evs_ok h ho h2
            have hE := look_ok hT h3
            have hcc := hE.ok bl vs v gs he o2
            refine ⟨(hcc u0 hg0 hb0).1, fun u hG hB => ?_⟩
            have hf' : first = #[] := Array.eq_empty_of_size_eq_zero hc.1
            have hc' : caps = #[] := Array.eq_empty_of_size_eq_zero hc.2
            have ha : c.args.map a.eval = (vs.map (AV.den gs)).toArray := by rw [← e2, ← Array.toList_map]
            simp [hop, resolve, hg, e1, AV.den, Deferred.ofValue, hf', hc', ha, invoke, hE.enter, Oper.quietUpon]
            exact (hcc u hG hB).2
          · cases he
        · cases he
      · rename_i F caps vs h1 h2
        split at he
        · rename_i e h3
          obtain ⟨e1, o1⟩ := ev_ok h ho h1
          obtain ⟨e2, o2⟩ := evs_ok h ho h2
          have hE := look_ok hT h3
          have hcall := hE.ok bl _ v gs he (fun w hw => by
            rcases List.mem_append.1 hw with hw | hw
            · exact o2 w hw
            · obtain ⟨k, hk, rfl⟩ := List.mem_map.1 hw
              exact o1 k hk)
          refine ⟨(hcall u0 hg0 hb0).1, fun u hG hB => ?_⟩
          have ha : c.args.map a.eval = (vs.map (AV.den gs)).toArray := by rw [← e2, ← Array.toList_map]
          have hcc := (hcall u hG hB).2
          rw [List.map_append, List.map_map] at hcc
          simp [hop, resolve, hg, e1, AV.den, Deferred.ofValue, ha, invoke, hE.enter, Oper.quietUpon]
          simpa [AV.den, Function.comp_def] using hcc
        · cases he
      · cases he
    · rename_i hb
      have key : ∀ (e : TypeId) (v : AV) (A : Option Addr) (n cp : Nat), c.argTypes[0]?.bind P.underlying = some (.slice e) → evs sl c.args.toList = some [v] → v.den gs = .slice A n cp → ∀ u, ((execOp a.eval o).run P u) = .ok (.value (.int .i64 n)) u := by
        intro e v A n cp h1 h2 h3 u
        obtain ⟨e2, o2⟩ := evs_ok h ho h2
        obtain ⟨t, ht, hu⟩ := Option.bind_eq_some_iff.1 h1
        have ha : c.args.map a.eval = #[.slice A n cp] := by
          have : (c.args.map a.eval) = (c.args.toList.map a.eval).toArray := by rw [← Array.toList_map]
          rw [this, e2, List.map_cons, List.map_nil, h3]
        simp [execOp, hop, resolve, hb, ha, invoke, builtin, Builtin.len_, ht, run_underlying hu, goInt]
      split at he
      · rename_i e k off n cp h1 h2
        obtain rfl := Option.some.inj he
        exact ⟨trivial, fun u _ _ => by
          have := key e (.slc k off n cp) _ n cp h1 h2 rfl u
          unfold execOp at this
          rw [this]
          exact ⟨rfl, rfl⟩⟩
      · rename_i e A n cp h1 h2
        obtain rfl := Option.some.inj he
        exact ⟨trivial, fun u _ _ => by
          have := key e (.val (.slice A n cp)) A n cp h1 h2 rfl u
          unfold execOp at this
          rw [this]
          exact ⟨rfl, rfl⟩⟩
      · cases he
    · cases he
  · cases he
end
end Go.Proofs.YtpkbbdhpdplkeaaDoor.Sx
