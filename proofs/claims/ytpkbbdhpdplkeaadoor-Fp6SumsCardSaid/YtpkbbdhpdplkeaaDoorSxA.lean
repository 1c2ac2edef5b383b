/-
  Own text. A reckoner of straight code, first part: values with names for their blocks; parts of rows; what an operation yields.
-/
import Derived.Test.YtpkbbdhpdplkeaaDoorMRegT
import Derived.Test.YtpkbbdhpdplkeaaDoorRegP
import Derived.Test.YtpkbbdhpdplkeaaDoorFp2Spec
namespace Go.Proofs.YtpkbbdhpdplkeaaDoor.Sx
set_option linter.unusedVariables false
set_option linter.unusedSimpArgs false
set_option linter.unusedSectionVars false
open Go Go.RowKit Go.Proofs.YtpkbbdhpdplkeaaDoor.Reg Go.Proofs.YtpkbbdhpdplkeaaDoor.Limb Go.Proofs.YtpkbbdhpdplkeaaDoor.Fp2
/-- A piece of a row: n words, or one cell of another kind. -/
inductive Sg where
  | nums (n : Nat) (xs : List Int)
  | one (v : Value)
def Sg.size : Sg → Nat
  | .nums n _ => n
  | .one _ => 1
def Sg.den : Sg → List Value
  | .nums _ xs => xs.map (.int .u64)
  | .one v => [v]
def Sg.Ok : Sg → Prop
  | .nums n xs => Nm n xs
  | .one v => v.oneCell' = true
abbrev Row := List Sg
def den : Row → List Value
  | [] => []
  | s :: ss => s.den ++ den ss
def sz : Row → Nat
  | [] => 0
  | s :: ss => s.size + sz ss
def Ok : Row → Prop
  | [] => True
  | s :: ss => s.Ok ∧ Ok ss
theorem Sg.len {s : Sg} (h : s.Ok) : s.den.length = s.size := by
  cases s with
  | nums n xs => simpa [Sg.den, Sg.size] using Nm.len h
  | one v => rfl
theorem den_len : ∀ {ss : Row}, Ok ss → (den ss).length = sz ss
  | [], _ => rfl
  | s :: ss, h => by rw [den, sz, List.length_append, s.len h.1, den_len h.2]
theorem den_app : ∀ (a b : Row), den (a ++ b) = den a ++ den b
  | [], b => rfl
  | s :: a, b => by rw [List.cons_append, den, den, den_app a b, List.append_assoc]
theorem sz_app : ∀ (a b : Row), sz (a ++ b) = sz a + sz b
  | [], b => by simp [sz]
  | s :: a, b => by rw [List.cons_append, sz, sz, sz_app a b, Nat.add_assoc]
theorem ok_app : ∀ {a b : Row}, Ok a → Ok b → Ok (a ++ b)
  | [], _, _, h => h
  | _ :: _, _, h, h' => ⟨h.1, ok_app h.2 h'⟩
theorem den_one : ∀ {ss : Row}, Ok ss → (den ss).toArray.all (·.oneCell') = true
  | [], _ => by simp [den]
  | s :: ss, h => by
    have h1 := den_one h.2
    have h0 : s.den.all (·.oneCell') = true := by
      cases s with
      | nums n xs => simp [Sg.den, Value.oneCell']
      | one v =>
        have := h.1
        simp only [Sg.Ok] at this
        simp [Sg.den, this]
    simp only [List.all_toArray] at h1 ⊢
    rw [den, List.all_append, h0, h1]
    rfl
/-- Of a row, n cells from off on. -/
def part : Row → Nat → Nat → Option Row
  | [], _, n => if n = 0 then some [] else none
  | s :: ss, off, n =>
    if n = 0 then some []
    else if s.size ≤ off then part ss (off - s.size) n
    else match s with
      | .nums m xs => if off = 0 ∧ m ≤ n then (part ss 0 (n - m)).map (.nums m xs :: ·)
        else if off + n ≤ m then some [.nums n (seg off n xs)]
        else (part ss 0 (n - (m - off))).map (.nums (m - off) (seg off (m - off) xs) :: ·)
      | .one v => (part ss 0 (n - 1)).map (.one v :: ·)
theorem map_seg (xs : List Int) (off n : Nat) : ((xs.map (Value.int .u64)).drop off).take n = (seg off n xs).map (.int .u64) := by
  rw [seg, List.map_take, List.map_drop]
theorem part_ok : ∀ {ss : Row} {off n : Nat} {out : Row}, Ok ss → part ss off n = some out → ((den ss).drop off).take n = den out ∧ Ok out ∧ sz out = n
  | [], off, n, out, _, h => by
    unfold part at h
    split at h
    · rename_i hn
      subst hn
      obtain rfl := Option.some.inj h
      exact ⟨by simp [den], trivial, rfl⟩
    · cases h
  | s :: ss, off, n, out, hok, h => by
    unfold part at h
    split at h
    · rename_i hn
      subst hn
      obtain rfl := Option.some.inj h
      exact ⟨by simp [den], trivial, rfl⟩
    · rename_i hn
      split at h
      · rename_i hoff
        have h1 := part_ok hok.2 h
        refine ⟨?_, h1.2⟩
        rw [den, List.drop_append, List.drop_eq_nil_of_le (by rw [s.len hok.1]; exact hoff), List.nil_append, s.len hok.1]
        exact h1.1
      · rename_i hoff
        cases s with
        | nums m xs =>
          have hx : Nm m xs := hok.1
          have hl : (Sg.den (.nums m xs)).length = m := Sg.len hok.1
          simp only [Sg.size] at hoff
          simp only at h
          split at h
          · rename_i hc
            obtain ⟨rest, hr, rfl⟩ := Option.map_eq_some_iff.1 h
            obtain ⟨e1, o1, z1⟩ := part_ok hok.2 hr
            obtain ⟨rfl, hmn⟩ := hc
            refine ⟨?_, ⟨hok.1, o1⟩, by rw [sz, z1, Sg.size]; omega⟩
            rw [den, den, ← e1, List.drop_zero, List.drop_zero, List.take_append, hl, List.take_of_length_le (by omega)]
          · split at h
            · obtain rfl := Option.some.inj h
              refine ⟨?_, ⟨hx.seg (by omega), trivial⟩, by simp [sz, Sg.size]⟩
              rw [den, List.drop_append_of_le_length (by omega), List.take_append_of_le_length (by rw [List.length_drop]; omega)]
              simp only [den, Sg.den, List.append_nil]
              exact map_seg xs off n
            · rename_i hc1 hc2
              obtain ⟨rest, hr, rfl⟩ := Option.map_eq_some_iff.1 h
              obtain ⟨e1, o1, z1⟩ := part_ok hok.2 hr
              refine ⟨?_, ⟨hx.seg (by omega), o1⟩, by rw [sz, z1, Sg.size]; omega⟩
              rw [den, List.drop_append_of_le_length (by omega), List.take_append, List.length_drop, hl, List.take_of_length_le (by rw [List.length_drop]; omega), den, ← e1, List.drop_zero]
              congr 1
              show (xs.map (Value.int .u64)).drop off = (seg off (m - off) xs).map (.int .u64)
              rw [← map_seg, List.take_of_length_le (by rw [List.length_drop, List.length_map, hx.len]; omega)]
        | one v =>
          obtain ⟨rest, hr, rfl⟩ := Option.map_eq_some_iff.1 h
          obtain ⟨e1, o1, z1⟩ := part_ok hok.2 hr
          have h0 : off = 0 := by
            simp only [Sg.size] at hoff
            omega
          subst h0
          refine ⟨?_, ⟨hok.1, o1⟩, by rw [sz, z1, Sg.size]; omega⟩
          rw [den, den, ← e1, List.drop_zero, List.drop_zero]
          show (v :: den ss).take n = v :: (den ss).take (n - 1)
          obtain ⟨k, rfl⟩ : ∃ k, n = k + 1 := ⟨n - 1, by omega⟩
          rfl
/-- A row of words alone, put together. -/
def mgo : Nat → List Int → Row → Option (Nat × List Int)
  | n, xs, [] => some (n, xs)
  | n, xs, .nums m ys :: r => mgo (n + m) (xs ++ ys) r
  | _, _, .one _ :: _ => none
def mg : Row → Option (Nat × List Int)
  | [] => some (0, [])
  | .nums n xs :: r => mgo n xs r
  | .one _ :: _ => none
theorem mgo_ok : ∀ {r : Row} {n m : Nat} {xs ys : List Int}, Nm n xs → Ok r → mgo n xs r = some (m, ys) → Nm m ys ∧ xs.map (Value.int .u64) ++ den r = ys.map (.int .u64)
  | [], n, m, xs, ys, hx, _, h => by
    injection h with h
    injection h with h1 h2
    subst h1 h2
    exact ⟨hx, by simp [den]⟩
  | .nums k zs :: r, n, m, xs, ys, hx, hr, h => by
    obtain ⟨h1, h2⟩ := mgo_ok (hx.app hr.1) hr.2 h
    exact ⟨h1, by rw [← h2, den, Sg.den, List.map_append, List.append_assoc]⟩
  | .one _ :: _, _, _, _, _, _, _, h => by cases h
theorem mg_ok : ∀ {r : Row} {m : Nat} {ys : List Int}, Ok r → mg r = some (m, ys) → Nm m ys ∧ den r = ys.map (.int .u64)
  | [], m, ys, _, h => by
    injection h with h
    injection h with h1 h2
    subst h1 h2
    exact ⟨⟨rfl, words_nil⟩, rfl⟩
  | .nums n xs :: r, m, ys, hr, h => by
    obtain ⟨h1, h2⟩ := mgo_ok hr.1 hr.2 h
    exact ⟨h1, by rw [← h2]; rfl⟩
  | .one _ :: _, _, _, _, h => by cases h
/-- Cells as they are, words put together. -/
def pre (v : Value) (t : Row) : Row :=
  match v with
  | .int .u64 k => if 0 ≤ k ∧ k < 18446744073709551616 then (match t with | .nums n xs :: u => .nums (n + 1) (k :: xs) :: u | t => .nums 1 [k] :: t) else .one (.int .u64 k) :: t
  | v => .one v :: t
def cmp : List Value → Row
  | [] => []
  | v :: r => pre v (cmp r)
theorem pre_den (v : Value) (t : Row) : den (pre v t) = v :: den t := by
  unfold pre
  split
  · split
    · split <;> rfl
    · rfl
  · rfl
theorem pre_ok {v : Value} {t : Row} (hv : v.oneCell' = true) (ht : Ok t) : Ok (pre v t) := by
  unfold pre
  split
  · rename_i k
    split
    · rename_i hk
      split
      · rename_i n xs u
        refine ⟨⟨by simp [ht.1.len], fun i => ?_⟩, ht.2⟩
        rcases i with _ | i
        · simp [nth]; omega
        · have := ht.1.words i
          simpa [nth] using this
      · refine ⟨⟨rfl, fun i => ?_⟩, ht⟩
        rcases i with _ | i
        · simp [nth]; omega
        · simp [nth]
    · exact ⟨rfl, ht⟩
  · exact ⟨hv, ht⟩
theorem cmp_den : ∀ (l : List Value), den (cmp l) = l
  | [] => rfl
  | v :: r => by rw [cmp, pre_den, cmp_den r]
theorem cmp_ok : ∀ (l : List Value), l.all (·.oneCell') = true → Ok (cmp l)
  | [], _ => trivial
  | v :: r, h => by
    simp only [List.all_cons, Bool.and_eq_true] at h
    exact pre_ok h.1 (cmp_ok r h.2)
/-- A value: a place in one of the function's own blocks; a row; any other that names none of them; a slice of an own block; several; a function value over own blocks; a whole number that is reckoned with by name; not known. -/
inductive TV where
  | agg (r : Row)
  | val (v : Value)
inductive AV where
  | ptr (k off : Nat)
  | agg (r : Row)
  | val (v : Value)
  | slc (k off n c : Nat)
  | tup (vs : List TV)
  | fn (f : FuncId) (caps : List Nat)
  | num (k : IntKind) (x : Int)
  | unk
def TV.den : TV → Value
  | .agg r => .agg (Sx.den r).toArray
  | .val v => v
def TV.Ok : TV → Prop
  | .agg r => Sx.Ok r
  | .val _ => True
def TV.av : TV → AV
  | .agg r => .agg r
  | .val v => .val v
def AV.den (gs : List Nat) : AV → Value
  | .ptr k off => .pointer (some ⟨gs.getD k 0, off, none⟩)
  | .agg r => .agg (Sx.den r).toArray
  | .val v => v
  | .slc k off n c => .slice (some ⟨gs.getD k 0, off, none⟩) n c
  | .tup vs => .tuple (vs.map TV.den).toArray
  | .fn f caps => .func (.func f) #[] (caps.map fun k => .pointer (some ⟨gs.getD k 0, 0, none⟩)).toArray
  | .num k x => .int k x
  | .unk => undef
def TV.OkL : List TV → Prop
  | [] => True
  | v :: r => v.Ok ∧ TV.OkL r
/-- Rows are rows of words; blocks are there. -/
def AV.Ok (n : Nat) : AV → Prop
  | .ptr k _ | .slc k _ _ _ => k < n
  | .agg r => Sx.Ok r
  | .val _ => True
  | .tup vs => TV.OkL vs
  | .fn _ caps => ∀ k ∈ caps, k < n
  | .num k x => k = .u64 → 0 ≤ x ∧ x < 18446744073709551616
  | .unk => True
theorem getD_ext {gs : List Nat} {k g : Nat} (h : k < gs.length) : (gs ++ [g]).getD k 0 = gs.getD k 0 := by
  simp [List.getD, List.getElem?_append_left h]
theorem AV.den_ext {gs : List Nat} {g : Nat} {v : AV} (h : v.Ok gs.length) : v.den (gs ++ [g]) = v.den gs := by
  cases v with
  | ptr k off => simp only [AV.den, getD_ext h]
  | slc k off n c => simp only [AV.den, getD_ext h]
  | fn f caps =>
    simp only [AV.den]
    congr 2
    refine List.map_congr_left fun k hk => ?_
    rw [getD_ext (h k hk)]
  | agg r => rfl
  | val v => rfl
  | tup vs => rfl
  | num k x => rfl
  | unk => rfl
theorem AV.Ok.mono {n m : Nat} {v : AV} (h : v.Ok n) (hm : n ≤ m) : v.Ok m := by
  cases v with
  | ptr k off => exact Nat.lt_of_lt_of_le h hm
  | slc k off n c => exact Nat.lt_of_lt_of_le h hm
  | fn f caps => exact fun k hk => Nat.lt_of_lt_of_le (h k hk) hm
  | agg r => exact h
  | val v => trivial
  | tup vs => exact h
  | num k x => exact h
  | unk => trivial
theorem TV.okL_get : ∀ {vs : List TV} {i : Nat} {v : TV}, TV.OkL vs → vs[i]? = some v → v.Ok
  | [], _, _, _, h => by simp at h
  | a :: r, 0, v, hk, h => by
    obtain rfl : a = v := by simpa using h
    exact hk.1
  | a :: r, i + 1, v, hk, h => TV.okL_get (vs := r) (i := i) hk.2 (by simpa using h)
end Go.Proofs.YtpkbbdhpdplkeaaDoor.Sx
