/-
  Own text. A reckoner of straight code, sixth part: drawn regions.
-/
import Derived.Test.YtpkbbdhpdplkeaaDoorSxE
namespace Go.Proofs.YtpkbbdhpdplkeaaDoor.Sx
set_option linter.unusedVariables false
set_option linter.unusedSimpArgs false
set_option linter.unusedSectionVars false
open Go Go.RowKit Go.Proofs.YtpkbbdhpdplkeaaDoor.Reg Go.Proofs.YtpkbbdhpdplkeaaDoor.Limb Go.Proofs.YtpkbbdhpdplkeaaDoor.Fp2
def isRead : Op → Bool
  | .alloc _ | .store .. | .buildSlice .. | .box .. => false
  | _ => true
def nReads : List Oper → Nat
  | [] => 0
  | o :: l => if isRead o.op then nReads l + 1 else 0
def nAllocs : List Oper → Nat
  | [] => 0
  | o :: l => match o.op with
    | .alloc _ => nAllocs l + 1
    | _ => 0
def rdy (ops : Array Oper) (L : Array Bool) (is : List Nat) : Bool := decide (Region.ready .any ops L = is)
def dF (ops : Array Oper) (i : Nat) : Tmp := ((ops[i]?).bind (·.dst)).getD 0
def alT : Op → TypeId
  | .alloc t => t
  | _ => 0
def tF (ops : Array Oper) (i : Nat) : TypeId := match ops[i]? with
  | some o => alT o.op
  | none => 0
def zF (P : Program) (ops : Array Oper) (i : Nat) : Array Value := (den ((zeroOf P (tF ops i)).getD [])).toArray
def allocsI (P : Program) (ops : Array Oper) : List Nat → List AV → List Bk → Option (List AV × List Bk)
  | [], sl, bs => some (sl, bs)
  | i :: is, sl, bs => match ops[i]? with
    | some o => match o.op, o.dst, o.guard with
      | .alloc t, some d, none => match zeroOf P t with
        | some z => allocsI P ops is (sl.set d (.ptr bs.length 0)) (bs ++ [(t, z)])
        | none => none
      | _, _, _ => none
    | none => none
/-- Stores into blocks that the region has made, one behind the other. -/
def storesB (P : Program) (ops : Array Oper) (b0 : Nat) (sl : List AV) : Nat → List Oper → List Bk → Array Bool → Option (List Bk)
  | i, [], bs, L => if rdy ops L [] then some bs else none
  | i, o :: l, bs, L => match o.op, o.guard, o.dst with
    | .store t p y, none, none => match ev sl p, ev sl y with
      | some (.ptr k 0), some (.agg r) => match bs[k]?, P.info? t with
        | some (tb, rb), some inf => if b0 ≤ k ∧ inf.size = sz r ∧ sz rb = sz r ∧ rdy ops L [i] = true then storesB P ops b0 sl (i + 1) l (bs.set k (tb, r)) (L.setIfInBounds i true) else none
        | _, _ => none
      | _, _ => none
    | _, _, _ => none
/-- Regions whose operations that make memory come up in more than one order: every order is reckoned. -/
def tgt (sl : List AV) (k : Nat) : List Oper → Bool
  | [] => false
  | o :: l => (match o.op with
    | .store _ p _ => (match ev sl p with
      | some (.ptr j _) => Nat.beq j k
      | _ => false)
    | _ => false) || tgt sl k l
def mask (ops : Array Oper) (sl : List AV) (bs : List Bk) (k : Nat) : Option Bk := if tgt sl k ops.toList then none else bs[k]?
/-- The stores' places are told by slots that no read writes. -/
def sane (ops : Array Oper) : Bool := ops.toList.all fun o => match o.op with
  | .store _ (.tmp t) _ => ops.toList.all fun o' => !(isRead o'.op) || (match o'.dst with | some d => !(Nat.beq d t) | none => true)
  | .store .. => false
  | _ => true
def opAt (ops : Array Oper) (i : Nat) : Oper := ops[i]?.getD default
def findR (ops : Array Oper) (L : Array Bool) : List Nat → Option Nat
  | [] => none
  | i :: l => if isRead (opAt ops i).op && Region.free .any ops L i then some i else findR ops L l
abbrev Outs := List (List AV × List Bk) × List Ob
def joinO : Option Outs → Option Outs → Option Outs
  | some (a, o), some (b, p) => some (a ++ b, o ++ p)
  | _, _ => none
def exAll (f : Nat → Option Outs) : List Nat → Option Outs
  | [] => some ([], [])
  | i :: l => joinO (f i) (exAll f l)
def ex (P : Program) (C : Cx) (m : Nat) (ops : Array Oper) : Nat → Array Bool → List AV → List Bk → Option Outs
  | 0, L, sl, bs => if rdy ops L [] then some ([(sl, bs)], []) else none
  | f + 1, L, sl, bs => match findR ops L (Region.ready .any ops L) with
    | some i => match stepR P C ops (mask ops sl bs) sl [true] (opAt ops i) with
      | some (v, _, o1) => match ex P C m ops f (L.setIfInBounds i true) (putA sl (opAt ops i).dst v) bs with
        | some (outs, o2) => some (outs, o1 ++ o2)
        | none => none
      | none => none
    | none => match Region.ready .any ops L with
      | [] => none
      | r => exAll (fun i => if isRead (opAt ops i).op then none else match stepS P C m ops sl bs [] (opAt ops i) with
        | some (sl1, bs1, _, o1) => (match ex P C m ops f (L.setIfInBounds i true) sl1 bs1 with
          | some (outs, o2) => some (outs, o1 ++ o2)
          | none => none)
        | none => none) r
def drawS0 (P : Program) (C : Cx) (m : Nat) (lo : List Oper) (sl : List AV) (bs : List Bk) (q : List Bool) : Option (List AV × List Bk × List Bool × List Ob) :=
  let n := nReads lo
  let L := firstN n 0 (Array.replicate lo.toArray.size false)
  match lo.drop n with
  | [] => if readsOK lo n 0 && rdy lo.toArray L [] then (match rds P C lo.toArray (fun k => bs[k]?) (lo.take n) sl q with
      | some (sl2, q2, o2) => some (sl2, bs, q2, o2)
      | none => none) else none
  | o :: rest => if Region.lexTailB .any lo.toArray n then (match rds P C lo.toArray (fun k => bs[k]?) (lo.take n) sl q with
      | some (sl2, q2, o2) => match seqS P C m lo.toArray (lo.drop n) sl2 bs q2 with
        | some (sl3, bs3, q3, o3) => some (sl3, bs3, q3, o2 ++ o3)
        | none => none
      | none => none)
    else
      let c := nAllocs (o :: rest)
      let al := List.range' n c
      if readsOK lo n (c + ((o :: rest).drop c).length) && decide (al.map (dF lo.toArray)).Nodup && allocB .any lo.toArray al.length al L then (match rds P C lo.toArray (fun k => bs[k]?) (lo.take n) sl q with
        | some (sl2, q2, o2) => match allocsI P lo.toArray al sl2 bs with
          | some (sl3, bs3) => match storesB P lo.toArray bs.length sl3 (n + c) ((o :: rest).drop c) bs3 (lst L al) with
            | some bs4 => some (sl3, bs4, q2, o2)
            | none => none
          | none => none
        | none => none) else none
abbrev O3 := List AV × List Bk × List Bool
def drawS (P : Program) (C : Cx) (m : Nat) (lo : List Oper) (sl : List AV) (bs : List Bk) (q : List Bool) : Option (List O3 × List Ob) :=
  match drawS0 P C m lo sl bs q with
  | some (sl2, bs2, q2, o2) => some ([(sl2, bs2, q2)], o2)
  | none => if Region.noSelect lo.toArray && sane lo.toArray then (match ex P C m lo.toArray lo.toArray.size (Array.replicate lo.toArray.size false) sl bs with
    | some (outs, o) => some (outs.map fun x => (x.1, x.2, q), o)
    | none => none) else none
section
variable {S m : Nat} {w x y u : World} {gs : List Nat} {bs : List Bk} {sl : List AV} {G : World → Prop} {C : Cx} {ops : Array Oper} {a : Act} {Q : Exit → Act → World → Prop} {P : Program}
theorem stores_ok {b0 : Nat} (hb0 : ∀ k, b0 ≤ k → k < gs.length → x.heap.size ≤ gs.getD k 0) (hmb : m ≤ b0) (h : Sl gs sl a) (ho : SOk gs.length sl) : ∀ {l : List Oper} {i : Nat} {bs bs2 : List Bk} {L : Array Bool} {y : World},
    (∀ j o, l[j]? = some o → ops[i + j]? = some o) → storesB P ops b0 sl i l bs L = some bs2 → Wd S w m gs bs y → But x.heap.size x y → (∀ z, Wd S w m gs bs2 z → Q .normal a z) → wpAnyU P .any ops Q (But x.heap.size x) l.length L a y
  | [], i, bs, bs2, L, y, hl, he, H, hy, hK => by
    unfold storesB at he
    split at he
    · rename_i hr
      obtain rfl := Option.some.inj he
      exact wpAnyU_end (by simpa [rdy] using hr) (fun z hz => hK z (H.keep hz))
    · cases he
  | o :: l, i, bs, bs2, L, y, hl, he, H, hy, hK => by
    unfold storesB at he
    split at he
    · rename_i t p q hop hg hd
      split at he
      · rename_i k r hp hq
        split at he
        · rename_i tb rb inf hb hi
          split at he
          · rename_i hc
            obtain ⟨p1, p2⟩ := ev_ok h ho hp
            obtain ⟨q1, q2⟩ := ev_ok h ho hq
            have hkl : k < gs.length := p2
            refine wpAnyU_run (oi := o) (hl 0 o rfl) (by simpa [rdy] using hc.2.2.2) (fun z hz => ?_)
            have Hz := H.keep hz
            have hh := (Hz.has k tb rb hb).1
            have hrb := (Hz.has k tb rb hb).2
            have hge := hb0 k hc.1 hkl
            refine wpList_store_rowTo hg t p q hop hd (gs.getD k 0) (den r).toArray p1 q1 tb _ hh.eq (by rw [hi, List.size_toArray, den_len q2]; exact congrArg some hc.2.1) (by rw [List.size_toArray, List.size_toArray, den_len q2, den_len hrb]; exact hc.2.2.1) (den_one q2) ?_
            have hbz : But x.heap.size x z := hy.then hz
            have hbut : But x.heap.size x (z.setRow (gs.getD k 0) (den r).toArray) := ⟨hbz.os, hbz.tape, hbz.output, by simpa using hbz.size, fun j hj hne => (setRow_other z _ j _ (by omega)).trans (hbz.block j hj hne)⟩
            refine ⟨hbut, stores_ok hb0 hmb h ho (fun j o' hj => ?_) he (Hz.set hb (Nat.le_trans hmb hc.1) (hh.row _) q2 ⟨rfl, rfl, rfl, by simp, fun j hj hne => setRow_other z _ j _ hne⟩) hbut hK⟩
            have := hl (j + 1) o' (by simpa using hj)
            rwa [show i + (j + 1) = i + 1 + j by omega] at this
          · cases he
        · cases he
      · cases he
    · cases he
theorem allocs_at : ∀ {is : List Nat} {sl : List AV} {bs : List Bk} {sl2 : List AV} {bs2 : List Bk}, allocsI P ops is sl bs = some (sl2, bs2) → ∀ i ∈ is, AllocAt P ops i (dF ops i) (tF ops i) (zF P ops i)
  | [], _, _, _, _, _, i, hi => by cases hi
  | j :: is, sl, bs, sl2, bs2, he, i, hi => by
    unfold allocsI at he
    split at he
    · rename_i o h1
      split at he
      · rename_i t d h2 h3 h4
        split at he
        · rename_i z h5
          rcases List.mem_cons.1 hi with rfl | hi
          · have e1 : dF ops i = d := by simp [dF, h1, h3]
            have e2 : tF ops i = t := by simp [tF, h1, h2, alT]
            have e3 : zF P ops i = (den z).toArray := by simp [zF, e2, h5]
            rw [e1, e2, e3]
            exact ⟨⟨o, h1, h4, h3, h2⟩, (zeroOf_ok h5).1⟩
          · exact allocs_at he i hi
        · cases he
      · cases he
    · cases he
theorem allocs_wd (hm : m ≤ gs.length) (hgs : ∀ k, k < gs.length → gs.getD k 0 < x.heap.size) (G : Nat → Nat) : ∀ {is : List Nat} {sl : List AV} {bs : List Bk} {sl2 : List AV} {bs2 : List Bk} {gs1 : List Nat} {a : Act} {y : World},
    allocsI P ops is sl bs = some (sl2, bs2) → (∀ i ∈ is, Has y (G i) (tF ops i) (zF P ops i) ∧ x.heap.size ≤ G i) → is.Nodup → (∀ i ∈ is, ∀ j ∈ is, i ≠ j → G i ≠ G j) → S ≤ x.heap.size →
    m ≤ gs1.length → (∀ i ∈ is, ∀ k, k < gs1.length → gs1.getD k 0 ≠ G i) → Sl gs1 sl a → SOk gs1.length sl → Wd S w m gs1 bs y → Sl (gs1 ++ is.map G) sl2 (pts (dF ops) G a is) ∧ SOk (gs1 ++ is.map G).length sl2 ∧ Wd S w m (gs1 ++ is.map G) bs2 y
  | [], sl, bs, sl2, bs2, gs1, a, y, he, hG, hnd, hd, hSx, hm1, hne, h, ho, H => by
    injection he with he
    injection he with e1 e2
    subst e1 e2
    simp only [List.map_nil, List.append_nil]
    exact ⟨h, ho, H⟩
  | i :: is, sl, bs, sl2, bs2, gs1, a, y, he, hG, hnd, hd, hSx, hm1, hne, h, ho, H => by
    unfold allocsI at he
    split at he
    · rename_i o h1
      split at he
      · rename_i t d h2 h3 h4
        split at he
        · rename_i z h5
          have e1 : dF ops i = d := by simp [dF, h1, h3]
          have e2 : tF ops i = t := by simp [tF, h1, h2, alT]
          have e3 : zF P ops i = (den z).toArray := by simp [zF, e2, h5]
          have hi := hG i (by simp)
          rw [e2, e3] at hi
          have hnd' := List.nodup_cons.1 hnd
          have H' := H.push (g := G i) hi.1 (zeroOf_ok h5).2 (Nat.le_trans hSx hi.2) (fun k hk => hne i (by simp) k hk) hm1
          have hl : (gs1 ++ [G i]).length = gs1.length + 1 := by simp
          have hsl := sl_put (d := some d) (v := .ptr bs.length 0) (h.ext (g := G i) ho)
          rw [AV.den, ← H.len, getD_new] at hsl
          have hok : SOk (gs1 ++ [G i]).length (sl.set d (.ptr bs.length 0)) := sok_put (d := some d) (ho.ext (by omega)) (by rw [← H.len]; show gs1.length < _; omega)
          rw [← H.len] at hok
          have ih := allocs_wd hm hgs G (gs1 := gs1 ++ [G i]) (a := a.put (some d) (.pointer (some ⟨G i, 0, none⟩))) he (fun j hj => hG j (List.mem_cons_of_mem _ hj)) hnd'.2 (fun j hj k hk => hd j (List.mem_cons_of_mem _ hj) k (List.mem_cons_of_mem _ hk)) hSx (by omega)
            (fun j hj k hk => ?_) (by rw [← H.len]; exact hsl) (by rw [← H.len]; exact hok) H'
          · rw [List.append_assoc] at ih
            have e4 : pts (dF ops) G a (i :: is) = pts (dF ops) G (a.put (some d) (.pointer (some ⟨G i, 0, none⟩))) is := by simp [pts, e1]
            rw [List.map_cons, e4]
            exact ih
          · by_cases hlt : k < gs1.length
            · rw [getD_ext hlt]
              exact hne j (List.mem_cons_of_mem _ hj) k hlt
            · obtain rfl : k = gs1.length := by omega
              rw [getD_new]
              exact hd i (by simp) j (List.mem_cons_of_mem _ hj) (fun e => hnd'.1 (e ▸ hj))
        · cases he
      · cases he
    · cases he
theorem firstN_app : ∀ (l : List Oper) (n j : Nat) (o : Oper), (l.drop n)[j]? = some o → l.toArray[n + j]? = some o := fun l n j o h => by
  rw [List.getElem?_drop] at h
  simpa using h
theorem pts_defers {dst : Nat → Tmp} {G : Nat → Nat} : ∀ (ex : List Nat) (a : Act), (pts dst G a ex).defers = a.defers
  | [], _ => rfl
  | i :: ex, a => by
    unfold pts
    simp only [List.foldl_cons]
    exact pts_defers ex _
theorem rdq_ok (hC : CxOk P C G) {bl : Nat → Option Bk} (h0 : ∃ u, G u ∧ BOk gs bl u) (hS : ∀ u, RowKit.Below x.heap.size x u → G u ∧ BOk gs bl u) : ∀ {l : List Oper} {sl : List AV} {q : List Bool} {a : Act} {sl2 : List AV} {q2 : List Bool} {obs : List Ob} {K : Act → Prop},
    rds P C ops bl l sl q = some (sl2, q2, obs) → Sl gs sl a → SOk gs.length sl → Holds obs → (∀ a', Sl gs sl2 a' → SOk gs.length sl2 → a'.defers = a.defers → K a') → wpQuiet P ops (fun z => RowKit.Below x.heap.size x z) K l a
  | [], sl, q, a, sl2, q2, obs, K, he, h, ho, hH, hK => by
    injection he with he
    injection he with e1 e2
    subst e1
    exact hK a h ho rfl
  | o :: l, sl, q, a, sl2, q2, obs, K, he, h, ho, hH, hK => by
    unfold rds at he
    split at he
    · cases he
    · rename_i v q1 o1 h1
      split at he
      · cases he
      · rename_i sl3 q3 o3 h2
        injection he with he
        injection he with e1 e2
        injection e2 with e2 e3
        subst e1 e2 e3
        obtain ⟨ha, hbb⟩ := holds_app hH
        obtain ⟨ov, hs⟩ := stepR_ok hC h ho h0 h1 ha
        have next := rdq_ok hC h0 hS (a := a.put o.dst (v.den gs)) (K := K) h2 (sl_put h) (sok_put ho ov) hbb (fun a' h3 h4 h5 => hK a' h3 h4 (h5.trans (by cases o.dst <;> rfl)))
        unfold wpQuiet
        rcases hs _ hS with ⟨hw, hq⟩ | ⟨hw, hu⟩
        · rw [if_pos hw]
          refine ⟨_, fun u hu => ?_, next⟩
          have hqu := hq u hu
          unfold Oper.quietAt at hqu ⊢
          generalize (execOp a.eval o).run P u = res at hqu
          unfold Oper.quietUpon at hqu ⊢
          split at hqu
          · exact hqu
          · exact hqu
          · exact ⟨hqu.1, hqu.2.mono fun e z ⟨e1, e2⟩ => ⟨e1, hu.trans (e2.mono hu.size)⟩⟩
          · exact hqu.elim
        · rw [hw, if_neg (by decide), ← hu]
          exact next
theorem findR_ok {L : Array Bool} : ∀ {l : List Nat} {i : Nat}, findR ops L l = some i → i ∈ l ∧ isRead (opAt ops i).op = true ∧ Region.free .any ops L i = true
  | [], _, h => by cases h
  | j :: l, i, h => by
    unfold findR at h
    split at h
    · rename_i hc
      obtain rfl := Option.some.inj h
      simp only [Bool.and_eq_true] at hc
      exact ⟨by simp, hc.1, hc.2⟩
    · obtain ⟨a, b⟩ := findR_ok h
      exact ⟨List.mem_cons_of_mem _ a, b⟩
theorem exAll_ok {f : Nat → Option Outs} : ∀ {l : List Nat} {outs : List (List AV × List Bk)} {ob : List Ob}, exAll f l = some (outs, ob) → Holds ob → ∀ i ∈ l, ∃ o1 b1, f i = some (o1, b1) ∧ Holds b1 ∧ ∀ x ∈ o1, x ∈ outs
  | [], _, _, _, _, i, hi => by cases hi
  | j :: l, outs, ob, h, hH, i, hi => by
    unfold exAll joinO at h
    split at h
    · rename_i a o b p h1 h2
      injection h with h
      injection h with e1 e2
      subst e1 e2
      obtain ⟨ha, hb⟩ := holds_app hH
      rcases List.mem_cons.1 hi with rfl | hi
      · exact ⟨a, o, h1, ha, fun x hx => List.mem_append_left _ hx⟩
      · obtain ⟨o1, b1, q1, q2, q3⟩ := exAll_ok h2 hb i hi
        exact ⟨o1, b1, q1, q2, fun x hx => List.mem_append_right _ (q3 x hx)⟩
    · cases h
theorem tgt_put {d : Tmp} {v : AV} {k : Nat} : ∀ {l : List Oper}, (∀ o ∈ l, ∀ t p y, o.op = .store t p y → ∃ q, p = .tmp q ∧ q ≠ d) → tgt (sl.set d v) k l = tgt sl k l
  | [], _ => rfl
  | o :: l, h => by
    unfold tgt
    rw [tgt_put (fun o' ho' => h o' (List.mem_cons_of_mem _ ho'))]
    congr 1
    cases hop : o.op with
    | store t p y =>
      obtain ⟨q, rfl, hq⟩ := h o (by simp) t p y hop
      simp only [ev]
      rw [List.getElem?_set_ne (Ne.symm hq)]
    | _ => rfl
theorem sane_put (hs : sane ops = true) {o : Oper} (ho : o ∈ ops.toList) (hr : isRead o.op = true) {v : AV} {k : Nat} : tgt (putA sl o.dst v) k ops.toList = tgt sl k ops.toList := by
  cases hd : o.dst with
  | none => rfl
  | some d =>
    refine tgt_put (fun o' ho' t p y hop => ?_)
    have := List.all_eq_true.1 hs o' ho'
    rw [hop] at this
    cases p with
    | tmp q =>
      refine ⟨q, rfl, fun he => ?_⟩
      subst he
      have h2 := List.all_eq_true.1 this o ho
      rw [hr, hd] at h2
      simp at h2
    | _ => cases this
theorem tgt_new {d : Tmp} {v : AV} {k : Nat} (hv : ∀ j off, v = .ptr j off → j ≠ k) : ∀ {l : List Oper}, tgt (putA sl (some d) v) k l = true → tgt sl k l = true
  | [], h => by cases h
  | o :: l, h => by
    unfold tgt at h ⊢
    simp only [Bool.or_eq_true] at h ⊢
    rcases h with h | h
    · left
      cases hop : o.op with
      | store t p y =>
        rw [hop] at h
        simp only at h ⊢
        cases p with
        | tmp q =>
          simp only [ev, putA] at h ⊢
          by_cases hq : d = q
          · subst hq
            by_cases hl : d < sl.length
            · rw [List.getElem?_set_self hl] at h
              cases v with
              | ptr j off =>
                simp only at h
                exact absurd (Nat.eq_of_beq_eq_true h) (hv j off rfl)
              | _ => cases h
            · have hnone : (sl.set d v)[d]? = none := List.getElem?_eq_none (by rw [List.length_set]; exact Nat.le_of_not_lt hl)
              rw [hnone] at h
              cases h
          · rw [List.getElem?_set_ne hq] at h
            exact h
        | _ => exact h
      | _ => rw [hop] at h; cases h
    · right
      exact tgt_new hv h
/-- What is known whatever is run, as far as it has come. -/
def Sst (S : Nat) (w : World) (ops : Array Oper) (gs : List Nat) (sl : List AV) (bs : List Bk) (z : World) : Prop := RowKit.Below S w z ∧ BOk gs (mask ops sl bs) z
theorem sst_of (H : Wd S w m gs bs x) : Sst S w ops gs sl bs x := ⟨H.bel, fun k t r hk => by
  unfold mask at hk
  split at hk
  · cases hk
  · exact H.has k t r hk⟩
theorem sst_up (hS : S ≤ x.heap.size) : ∀ z z', (Sst S w ops gs sl bs z ∧ S ≤ z.heap.size) → RowKit.Below z.heap.size z z' → (Sst S w ops gs sl bs z' ∧ S ≤ z'.heap.size) := fun z z' h hb =>
  ⟨⟨h.1.1.trans (hb.mono h.2), fun k t r hk => ⟨(h.1.2 k t r hk).1.keep hb, (h.1.2 k t r hk).2⟩⟩, Nat.le_trans h.2 hb.size⟩
theorem step0_mask {q q1 : List Bool} {sl1 : List AV} {bs1 : List Bk} {o : Oper} {o1 : List Ob} (hop : ∃ o' ∈ ops.toList, o'.op = o.op) (hr : isRead o.op = false) (he : stepS0 P C m ops sl bs q o = some (sl1, bs1, q1, o1)) {k t : Nat} {r : Row} (hk : mask ops sl bs k = some (t, r)) : mask ops sl1 bs1 k = some (t, r) := by
  unfold mask at hk ⊢
  split at hk
  · cases hk
  · rename_i hn
    have hkl : k < bs.length := (List.getElem?_eq_some_iff.1 hk).1
    have fresh : ∀ (v : AV) (b : Bk), (∀ j off, v = .ptr j off → j = bs.length) → sl1 = putA sl o.dst v → bs1 = bs ++ [b] → (if tgt sl1 k ops.toList = true then none else bs1[k]?) = some (t, r) := by
      intro v b hv e1 e2
      subst e1 e2
      have : tgt (putA sl o.dst v) k ops.toList = false := by
        cases hd : o.dst with
        | none => simpa [putA] using hn
        | some d =>
          cases hq : tgt (putA sl (some d) v) k ops.toList with
          | false => rfl
          | true => exact absurd (tgt_new (fun j off hj => by rw [hv j off hj]; omega) hq) hn
      rw [this, List.getElem?_append_left hkl]
      exact hk
    unfold stepS0 at he
    split at he
    · split at he
      · injection he with he
        injection he with e1 he
        injection he with e2 e3
        exact fresh _ _ (fun j off h => by injection h with h1 h2; exact h1.symm) e1.symm e2.symm
      · cases he
    · split at he
      · injection he with he
        injection he with e1 he
        injection he with e2 e3
        exact fresh _ _ (fun j off h => by injection h with h1 h2; exact h1.symm) e1.symm e2.symm
      · cases he
    · split at he
      · split at he
        · injection he with he
          injection he with e1 he
          injection he with e2 e3
          exact fresh _ _ (fun j off h => by cases h) e1.symm e2.symm
        · cases he
      · cases he
    · rename_i tt p y hst
      split at he
      · rename_i k0 off v hg hd hp hy
        split at he
        · split at he
          · split at he
            · injection he with he
              injection he with e1 he
              injection he with e2 e3
              subst e1 e2
              rw [if_neg hn]
              have hne : k0 ≠ k := fun e => by
                subst e
                refine hn ?_
                obtain ⟨o', ho', hoo⟩ := hop
                have hst' : o'.op = .store tt p y := hoo.trans hst
                have : ∀ l : List Oper, o' ∈ l → tgt sl k0 l = true := by
                  intro l
                  induction l with
                  | nil => intro h; cases h
                  | cons a l ih =>
                    intro h
                    unfold tgt
                    rcases List.mem_cons.1 h with rfl | h
                    · rw [hst']
                      simp [hp]
                    · rw [ih h, Bool.or_true]
                exact this _ ho'
              rw [List.getElem?_set_ne hne]
              exact hk
            · cases he
          · cases he
        · cases he
      · cases he
    · rename_i h1 h2 h3 h4
      cases hq : o.op <;> first
        | exact (h1 _ hq).elim
        | exact (h2 _ _ hq).elim
        | exact (h3 _ _ _ hq).elim
        | exact (h4 _ _ _ hq).elim
        | (rw [hq] at hr; cases hr)
theorem stepS_mask {q q1 : List Bool} {sl1 : List AV} {bs1 : List Bk} {o : Oper} {o1 : List Ob} (hop : o ∈ ops.toList) (hr : isRead o.op = false) (he : stepS P C m ops sl bs q o = some (sl1, bs1, q1, o1)) {k t : Nat} {r : Row} (hk : mask ops sl bs k = some (t, r)) : mask ops sl1 bs1 k = some (t, r) := by
  unfold stepS at he
  split at he
  · exact step0_mask ⟨o, hop, rfl⟩ hr he hk
  · split at he
    · exact step0_mask (o := { o with guard := none }) ⟨o, hop, rfl⟩ hr he hk
    · injection he with he
      injection he with e1 e2
      injection e2 with e2 e3
      subst e1 e2
      unfold mask at hk ⊢
      split at hk
      · cases hk
      · rename_i hn
        have : tgt (putA sl o.dst (.val undef)) k ops.toList = false := by
          cases hd : o.dst with
          | none => simpa [putA] using hn
          | some d =>
            cases hq : tgt (putA sl (some d) (.val undef)) k ops.toList with
            | false => rfl
            | true => exact absurd (tgt_new (fun j off hj => by cases hj) hq) hn
        rw [this]
        exact hk
    · cases he
theorem ex_ok (hC : CxOk P C G) (hG : ∀ u, RowKit.Below S w u → G u) (hQ : ∀ c a d v w, Q (.panic c) (Act.put a d v) w → Q (.panic c) a w) (hsel : Region.noSelect ops = true) (hsane : sane ops = true) : ∀ {f : Nat} {L : Array Bool} {sl : List AV} {bs : List Bk} {gs : List Nat} {a : Act} {y : World} {outs : List (List AV × List Bk)} {obs : List Ob},
    ex P C m ops f L sl bs = some (outs, obs) → Sl gs sl a → SOk gs.length sl → m ≤ gs.length → Wd S w m gs bs y → Holds obs →
    (∀ sl2 bs2 gs' a' x', (sl2, bs2) ∈ outs → Sl gs' sl2 a' → SOk gs'.length sl2 → m ≤ gs'.length → a'.defers = a.defers → Wd S w m gs' bs2 x' → Q .normal a' x') →
    wpAnyU P .any ops Q (fun z => Sst S w ops gs sl bs z ∧ S ≤ z.heap.size) f L a y := by
  intro f
  induction f with
  | zero =>
    intro L sl bs gs a y outs obs he h ho hm H hH hK
    unfold ex at he
    split at he
    · rename_i hr
      injection he with he
      injection he with e1 e2
      subst e1
      exact wpAnyU_end (by simpa [rdy] using hr) (fun z hz => hK sl bs gs a z (by simp) h ho hm rfl (H.keep hz))
    · cases he
  | succ f ih =>
    intro L sl bs gs a y outs obs he h ho hm H hH hK
    have hget : ∀ i, i ∈ Region.ready .any ops L → ∃ o, ops[i]? = some o ∧ opAt ops i = o := fun i hi => by
      obtain ⟨_, o, ho, _⟩ := mem_ready.1 hi
      exact ⟨o, ho, by simp [opAt, ho]⟩
    unfold ex at he
    split at he
    · rename_i i hi
      obtain ⟨hmem, hrd, hfree⟩ := findR_ok hi
      obtain ⟨o, hio, hoo⟩ := hget i hmem
      rw [hoo] at he hrd
      have hin : o ∈ ops.toList := by
        rw [Array.mem_toList_iff]
        exact Array.mem_of_getElem? hio
      split at he
      · rename_i v q1 o1 h1
        split at he
        · rename_i outs' o2 h2
          injection he with he
          injection he with e1 e2
          subst e1 e2
          obtain ⟨ha, hb⟩ := holds_app hH
          obtain ⟨ov, hs⟩ := stepR_ok (a := a) hC h ho ⟨y, hG _ H.bel, (sst_of H).2⟩ h1 ha
          refine wpAnyU_take (sst_up H.sz) hio hsel hfree (by simpa using hmem) hQ ⟨sst_of H, H.sz⟩ (hs _ (fun u hu => ⟨hG u hu.1.1, hu.1.2⟩)) ?_
          have := ih h2 (sl_put h) (sok_put ho ov) hm H hb (fun sl2 bs2 gs' a' x' p0 p1 p2 p3 p4 p5 => hK sl2 bs2 gs' a' x' p0 p1 p2 p3 (p4.trans (by cases o.dst <;> rfl)) p5)
          have e : mask ops (putA sl o.dst v) bs = mask ops sl bs := by
            funext k
            unfold mask
            rw [sane_put hsane hin hrd]
          unfold Sst at this ⊢
          rw [e] at this
          exact this
        · cases he
      · cases he
    · split at he
      · cases he
      · rename_i hne
        refine ⟨fun e => hne e, fun i hi z hz => ?_⟩
        obtain ⟨o, hio, hoo⟩ := hget i hi
        have hin : o ∈ ops.toList := by
          rw [Array.mem_toList_iff]
          exact Array.mem_of_getElem? hio
        obtain ⟨o1, b1, hf, hb1, hsub⟩ := exAll_ok he hH i hi
        rw [hoo] at hf
        split at hf
        · cases hf
        · rename_i hnr
          split at hf
          · rename_i sl1 bs1 q1 ob1 h1
            split at hf
            · rename_i outs' ob2 h2
              injection hf with hf
              injection hf with e1 e2
              subst e1 e2
              obtain ⟨ha, hb⟩ := holds_app hb1
              refine wpOp_of_list hio ?_
              have hseq : seqS P C m ops [o] sl bs [] = some (sl1, bs1, q1, ob1 ++ []) := by
                simp [seqS, h1]
              refine seq_ok hC hG (gs := gs) hseq h ho hm (H.keep hz) (by simpa using ha) (fun gs' a' x' pe p1 p2 p3 p4 p5 => ?_)
              obtain ⟨e, rfl⟩ := pe
              have hup : ∀ k t r, mask ops sl bs k = some (t, r) → mask ops sl1 bs1 k = some (t, r) ∧ k < gs.length := fun k t r hk => by
                refine ⟨stepS_mask hin (by simpa using hnr) h1 hk, ?_⟩
                unfold mask at hk
                split at hk
                · cases hk
                · rw [H.len]
                  exact (List.getElem?_eq_some_iff.1 hk).1
              have hsub2 : ∀ u, (Sst S w ops (gs ++ e) sl1 bs1 u ∧ S ≤ u.heap.size) → (Sst S w ops gs sl bs u ∧ S ≤ u.heap.size) := fun u hu => ⟨⟨hu.1.1, fun k t r hk => by
                obtain ⟨m1, m2⟩ := hup k t r hk
                have := hu.1.2 k t r m1
                rwa [show (gs ++ e).getD k 0 = gs.getD k 0 by simp [List.getD, List.getElem?_append_left m2]] at this⟩, hu.2⟩
              exact ⟨hsub2 _ ⟨sst_of p5, p5.sz⟩, wpAnyU_weaken hsub2 (ih h2 p1 p2 p3 p5 hb (fun sl2 bs2 gs2 a2 x2 r0 r1 r2 r3 r4 r5 => hK sl2 bs2 gs2 a2 x2 (hsub _ r0) r1 r2 r3 (r4.trans p4) r5))⟩
            · cases hf
          · cases hf
theorem draw0_ok (hC : CxOk P C G) (hG : ∀ u, RowKit.Below S w u → G u) (hQ : ∀ c a d v w, Q (.panic c) (Act.put a d v) w → Q (.panic c) a w) {id : Nat} {lo : List Oper} {q q2 : List Bool} {sl2 : List AV} {bs2 : List Bk} {obs : List Ob}
    (he : drawS0 P C m lo sl bs q = some (sl2, bs2, q2, obs)) (h : Sl gs sl a) (ho : SOk gs.length sl) (hm : m ≤ gs.length) (H : Wd S w m gs bs x) (hH : Holds obs)
    (hK : ∀ gs' a' x', Sl gs' sl2 a' → SOk gs'.length sl2 → m ≤ gs'.length → a'.defers = a.defers → Wd S w m gs' bs2 x' → Q .normal a' x') : (Code.region id lo.toArray true).wp P Q a x := by
  have hquiet : ∀ u, But x.heap.size x u → G u ∧ BOk gs (fun k => bs[k]?) u := fun u hu => ⟨hG u (H.of_but hu).bel, (H.of_but hu).bk⟩
  unfold drawS0 at he
  simp only at he
  split at he
  · split at he
    · rename_i hc
      simp only [readsOK, Bool.and_eq_true, rdy, decide_eq_true_eq] at hc
      split at he
      · rename_i sl3 q3 o3 h1
        injection he with he
        injection he with e1 e2
        injection e2 with e2 e3
        injection e3 with e3 e4
        subst e1 e2 e4
        refine wp_reads (nReads lo) 0 x.heap.size hC.mix hc.1.1.1 (Nat.eq_of_beq_eq_true hc.1.2) hc.1.1.2 hQ ?_
        refine rds_ok hC ⟨x, hG _ H.bel, H.bk⟩ hquiet h1 h ho hH (fun a' h3 h4 h5 => ?_)
        exact wpAnyU_end hc.2 (fun z hz => hK gs a' z h3 h4 hm h5 (H.of_but ((but_drew _ _).then hz)))
      · cases he
    · cases he
  · rename_i o rest hdrop
    have hat : ∀ j o', (o :: rest)[j]? = some o' → lo.toArray[nReads lo + j]? = some o' := fun j o' hj => firstN_app lo _ j o' (by rw [hdrop]; exact hj)
    split at he
    · rename_i hc
      split at he
      · rename_i sl3 q3 o3 h1
        split at he
        · rename_i sl4 bs4 q4 o4 h4
          injection he with he
          injection he with e1 e2
          injection e2 with e2 e3
          injection e3 with e3 e4
          subst e1 e2 e4
          obtain ⟨ha, hb⟩ := holds_app hH
          refine wp_tail (fun z => RowKit.Below x.heap.size x z) (nReads lo) hC.mix hc ⟨rfl, rfl, rfl, Nat.le_refl _, fun _ _ => rfl⟩ ?_
          refine rdq_ok (x := x) hC ⟨x, hG _ H.bel, H.bk⟩ (fun u hu => ⟨hG u (H.keep hu).bel, (H.keep hu).bk⟩) h1 h ho ha (fun a' h3 h4' h5 z hz => ?_)
          exact seq_ok hC hG h4 h3 h4' hm (H.keep hz) hb (fun gs' a2 x' _ p1 p2 p3 p4 p5 => hK gs' a2 x' p1 p2 p3 (p4.trans h5) p5)
        · cases he
      · cases he
    · split at he
      · rename_i hc
        simp only [readsOK, Bool.and_eq_true, decide_eq_true_eq] at hc
        split at he
        · rename_i sl3 q3 o3 h1
          split at he
          · rename_i sl4 bs4 h4
            split at he
            · rename_i bs5 h5
              injection he with he
              injection he with e1 e2
              injection e2 with e2 e3
              injection e3 with e3 e4
              subst e1 e2 e4
              obtain ⟨⟨⟨⟨hs, hB⟩, hlen⟩, hnd⟩, hall⟩ := hc
              refine wp_reads (nReads lo) _ x.heap.size hC.mix hs (Nat.eq_of_beq_eq_true hlen) hB hQ ?_
              refine rds_ok hC ⟨x, hG _ H.bel, H.bk⟩ hquiet h1 h ho hH (fun a' p3 p4 p5 => ?_)
              have hnd2 : (List.range' (nReads lo) (nAllocs (o :: rest))).Nodup := List.nodup_range' (step := 1)
              have hinj : ∀ i ∈ List.range' (nReads lo) (nAllocs (o :: rest)), ∀ j ∈ List.range' (nReads lo) (nAllocs (o :: rest)), i ≠ j → dF lo.toArray i ≠ dF lo.toArray j := fun i hi j hj hij he => hij (by
                obtain ⟨i', hi', rfl⟩ := List.mem_iff_getElem.1 hi
                obtain ⟨j', hj', rfl⟩ := List.mem_iff_getElem.1 hj
                have := (List.getElem_inj (h₀ := by simpa using hi') (h₁ := by simpa using hj') hnd).1 (by simpa using he)
                subst this
                rfl)
              have key := wpAnyU_allocs (P := P) (md := .any) (ops := lo.toArray) (Q := Q) (S := But x.heap.size x) (f := ((o :: rest).drop (nAllocs (o :: rest))).length) (B := x.heap.size) (List.range' (nReads lo) (nAllocs (o :: rest))) (dF lo.toArray) (tF lo.toArray) (zF P lo.toArray) (listed := firstN (nReads lo) 0 (Array.replicate lo.toArray.size false)) (a := a') (w := x.drew)
                (fun _ _ h hb => h.then hb) hnd2 hinj (allocs_at h4) hall (but_drew _ _) (but_drew x.heap.size x).size (fun G' y hy hG' hd' => ?_)
              · rw [List.length_range'] at key
                exact key
              · have hgs : ∀ k, k < gs.length → gs.getD k 0 < x.heap.size := fun k hk => H.lt hk
                obtain ⟨r1, r2, r3⟩ := allocs_wd (m := m) (gs := gs) (x := x) (S := S) (w := w) hm hgs G' h4 hG' hnd2 hd' H.sz hm (fun i hi k hk => Nat.ne_of_lt (Nat.lt_of_lt_of_le (hgs k hk) (hG' i hi).2)) p3 p4 (H.of_but hy)
                refine stores_ok (b0 := bs.length) (fun k hk hkl => ?_) (by rw [← H.len]; exact hm) r1 r2 (fun j o' hj => ?_) h5 r3 hy (fun z hz => hK _ _ z r1 r2 (by simp; omega) ((pts_defers _ _).trans p5) hz)
                · rw [← H.len] at hk
                  have e : (gs ++ (List.range' (nReads lo) (nAllocs (o :: rest))).map G').getD k 0 = ((List.range' (nReads lo) (nAllocs (o :: rest))).map G').getD (k - gs.length) 0 := by
                    simp [List.getD, List.getElem?_append_right hk]
                  rw [e]
                  have hk2 : k - gs.length < ((List.range' (nReads lo) (nAllocs (o :: rest))).map G').length := by
                    simp only [List.length_append] at hkl
                    omega
                  have hmem : ((List.range' (nReads lo) (nAllocs (o :: rest))).map G').getD (k - gs.length) 0 ∈ (List.range' (nReads lo) (nAllocs (o :: rest))).map G' := by
                    rw [List.getD_eq_getElem?_getD, List.getElem?_eq_getElem hk2]
                    exact List.getElem_mem _
                  obtain ⟨i, hi, hie⟩ := List.mem_map.1 hmem
                  rw [← hie]
                  exact (hG' i hi).2
                · rw [List.getElem?_drop] at hj
                  have := hat _ o' hj
                  rwa [← Nat.add_assoc] at this
            · cases he
          · cases he
        · cases he
      · cases he
theorem draw_ok (hC : CxOk P C G) (hG : ∀ u, RowKit.Below S w u → G u) (hQ : ∀ c a d v w, Q (.panic c) (Act.put a d v) w → Q (.panic c) a w) {id : Nat} {lo : List Oper} {q : List Bool} {l : List O3} {obs : List Ob}
    (he : drawS P C m lo sl bs q = some (l, obs)) (h : Sl gs sl a) (ho : SOk gs.length sl) (hm : m ≤ gs.length) (H : Wd S w m gs bs x) (hH : Holds obs)
    (hK : ∀ sl2 bs2 q2, (sl2, bs2, q2) ∈ l → ∀ gs' a' x', Sl gs' sl2 a' → SOk gs'.length sl2 → m ≤ gs'.length → a'.defers = a.defers → Wd S w m gs' bs2 x' → Q .normal a' x') : (Code.region id lo.toArray true).wp P Q a x := by
  unfold drawS at he
  split at he
  · rename_i sl2 bs2 q2 o2 h1
    injection he with he
    injection he with e1 e2
    subst e1 e2
    exact draw0_ok hC hG hQ h1 h ho hm H hH (hK sl2 bs2 q2 (by simp))
  · split at he
    · rename_i hc
      simp only [Bool.and_eq_true] at hc
      split at he
      · rename_i outs o h1
        injection he with he
        injection he with e1 e2
        subst e1 e2
        refine wp_regionU (S := fun z => Sst S w lo.toArray gs sl bs z ∧ S ≤ z.heap.size) hC.mix ?_
        have Hd : Wd S w m gs bs x.drew := H.keep ⟨rfl, rfl, rfl, Nat.le_refl _, fun _ _ => rfl⟩
        exact ex_ok hC hG hQ hc.1 hc.2 h1 h ho hm Hd hH (fun sl2 bs2 gs' a' x' p0 p1 p2 p3 p4 p5 => hK sl2 bs2 q (List.mem_map.2 ⟨(sl2, bs2), p0, rfl⟩) gs' a' x' p1 p2 p3 p4 p5)
      · cases he
    · cases he
end
end Go.Proofs.YtpkbbdhpdplkeaaDoor.Sx
