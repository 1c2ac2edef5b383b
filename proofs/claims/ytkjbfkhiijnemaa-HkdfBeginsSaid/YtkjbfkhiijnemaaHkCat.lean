/-
  Own text. The contracts of slices.Grow and slices.Concat at bytes, as the program calls them.
-/
import Derived.Test.YtkjbfkhiijnemaaHkExp
import Derived.Test.YtkjbfkhiijnemaaMemD
namespace Go.Proofs.Ytkjbfkhiijnemaa.Hk
open Go Go.RowKit Go.Proofs.Ytkjbfkhiijnemaa.Reg Go.Proofs.Ytkjbfkhiijnemaa.Sha

set_option maxRecDepth 100000 in
set_option maxHeartbeats 1000000 in
theorem grow_c (m : Nat) (w : World) (hm : m ≤ 1000000) :
    Calls Try.prog 45 #[.slice none 0 0, .int .i64 m] w fun e w' => ∃ A' c', e = .returned (.slice A' 0 c') ∧ Own w' w.heap.size 5 .u8 A' 0 c' [] ∧ Below w.heap.size w w' := by
  rcases Nat.eq_zero_or_pos m with h0 | h0
  · subst h0
    go_enter Try.func45, Try.ntmps45
    go_wp2
    go_ret
    exact ⟨none, 0, rfl, own_none _ _ _ _, Below.refl _ _⟩
  · go_enter Try.func45, Try.ntmps45
    go_wp2_with (refine append_zeros_abs (by rfl) (.tmp 20) (.tmp 21) 23 3 (by rfl) w.heap.size 5 .u8 .i64 1 Try.underlying23 Try.underlying3 u8Elem none 0 0 [] (by rfl) (own_none _ _ _ _) .i64 m (by rfl) m (Nat.zero_add m) (List.replicate m 0) (by rfl) (by omega) (by unfold maxLen; omega) (Nat.le_refl _) ?_
                 intro A1 c1 w1 ho1 hb1
                 have hcut := ho1.cut (Nat.zero_le m)
                 have hcap := ho1.le_cap)
    go_ret
    exact ⟨A1, c1, rfl, hcut, hb1⟩

/-- The parts of a join, all read below block B. -/
structure Parts (w : World) (B : Nat) (ps : List Part) : Prop where
  rd : ∀ p ∈ ps, Rd w B p.A p.n .u8 p.bs
  ok : ∀ p ∈ ps, Bytes p.bs
theorem Parts.keep {w w' : World} {B B' : Nat} {ps : List Part} (h : Parts w B ps) (hb : Below B' w w') (hB : B ≤ B') : Parts w' B ps := ⟨fun p hp => (h.rd p hp).keep hb hB, h.ok⟩
theorem Parts.more {w : World} {B B' : Nat} {ps : List Part} (h : Parts w B ps) (hB : B ≤ B') : Parts w B' ps := ⟨fun p hp => (h.rd p hp).more hB, h.ok⟩
theorem Parts.join {w : World} {B : Nat} : ∀ {ps : List Part}, Parts w B ps → Bytes (joinL ps)
  | [], _ => bytes_nil
  | p :: ps, h => bytes_append (h.ok p (by simp)) (Parts.join (ps := ps) ⟨fun q hq => h.rd q (by simp [hq]), fun q hq => h.ok q (by simp [hq])⟩)
theorem Parts.nil {w : World} {B : Nat} : Parts w B [] := ⟨fun p hp => (by cases hp), fun p hp => (by cases hp)⟩
theorem Parts.cons {w : World} {B : Nat} {p : Part} {ps : List Part} (h : Rd w B p.A p.n .u8 p.bs) (hb : Bytes p.bs) (hs : Parts w B ps) : Parts w B (p :: ps) :=
  ⟨fun q hq => (List.mem_cons.1 hq).elim (fun e => e ▸ h) (hs.rd q), fun q hq => (List.mem_cons.1 hq).elim (fun e => e ▸ hb) (hs.ok q)⟩

set_option maxRecDepth 100000 in
set_option maxHeartbeats 1000000 in
theorem concat_c (A : Option Addr) (n c : Nat) (ps : List Part) (N : Nat) (B : Nat) (w : World) (hl : Lst w B A n (ps.map Part.val)) (hp : Parts w B ps) (hB : B ≤ w.heap.size) (hn : n ≤ 1000) (hN : (joinL ps).length = N) (hN' : N ≤ 1000000) :
    Calls Try.prog 38 #[.slice A n c] w fun e w' => ∃ A' c', e = .returned (.slice A' N c') ∧ Own w' w.heap.size 5 .u8 A' N c' (joinL ps) ∧ Below w.heap.size w w' := by
  have hpl : ps.length = n := by have := hl.len; simpa using this
  have PL : Keep _ := ⟨hpl⟩
  have HN : Keep _ := ⟨hN⟩
  have TL : Keep (∀ k, (joinL (ps.take k)).length ≤ N) := ⟨fun k => hN ▸ joinL_take_le ps k⟩
  have PT : Keep (∀ k, k < n → ∃ p, ps[k]? = some p) := ⟨fun k hk => ⟨ps[k], List.getElem?_eq_getElem (by omega)⟩⟩
  clear hpl hN
  go_enter Try.func38, Try.ntmps38
  go_wp2
  go_loopw [3, 11] (fun v i wr => ∃ (k s : Nat), k ≤ n ∧ i = .int .i64 k ∧ v = .int .i64 s ∧ Keep ((joinL (ps.take k)).length = s) ∧ s ≤ N ∧ Below w.heap.size w wr) (fun _ i _ => n - (intOf i).toNat)
  case atStart => exact ⟨0, 0, Nat.zero_le _, rfl, rfl, ⟨by simp [joinL]⟩, Nat.zero_le _, Below.refl _ _⟩
  case round =>
    obtain ⟨k, s, hk, rfl, rfl, hs, hsN, hb⟩ := hrel
    by_cases hlt : k < n
    · obtain ⟨p, hpk⟩ := PT.out k hlt
      obtain ⟨b1, o1, rfl, hlb1, hc1⟩ := hl.at_ (by omega)
      have hcell : wr.cell? ⟨b1, o1 + k, none⟩ = some (.slice p.A p.n p.c) := (hb.cell (p := ⟨b1, o1 + k, none⟩) (by show b1 < _; omega)).trans (hc1 k _ (by rw [List.getElem?_map, hpk]; rfl))
      have hnx : (joinL (ps.take (k + 1))).length = s + p.n := by
        rw [← joinL_succ ps hpk, List.length_append, hs.out, (hp.rd p (List.mem_of_getElem? hpk)).len]
      have hle : s + p.n ≤ N := hnx ▸ TL.out (k + 1)
      have HX : Keep _ := ⟨hnx⟩
      have PK : Keep _ := ⟨hpk⟩
      clear hnx hpk hc1 hs
      go_wp2
      go_roundw
      case rel => exact ⟨k + 1, s + p.n, by omega, by go_num, by go_num, HX, hle, hb⟩
      case measure => simp [intOf]; omega
    · have ek : k = n := by omega
      subst ek
      have es : s = N := by rw [← hs.out, List.take_of_length_le (by rw [PL.out]; exact Nat.le_refl _), HN.out]
      subst es
      go_wp2_with (go_at_call 45
                   refine (grow_c s _ (by omega)).mono ?_
                   rintro e w1 ⟨A1, c1, rfl, ho1, hb1⟩
                   have hbb1 := hb.trans (hb1.mono hb.size)
                   have ho1' : Own w1 w.heap.size 5 .u8 A1 0 c1 [] := ⟨World.ownsRow.mono ho1.own hb.size⟩
                   clear ho1 hb1 hb)
      go_loopw [6, 27] (fun v i wr => ∃ (j s' : Nat) (A' : Option Addr) (c' : Nat), j ≤ k ∧ i = .int .i64 j ∧ v = .slice A' s' c' ∧ Own wr w.heap.size 5 .u8 A' s' c' (joinL (ps.take j)) ∧ Below w.heap.size w wr) (fun _ i _ => k - (intOf i).toNat)
      case atStart => exact ⟨0, 0, A1, c1, Nat.zero_le _, rfl, rfl, by simpa [joinL] using ho1', hbb1⟩
      case round =>
        clear ho1' hbb1 hs
        obtain ⟨j, s', A', c', hj, rfl, rfl, ho, hb⟩ := hrel
        by_cases hlt : j < k
        · obtain ⟨p, hpj⟩ := PT.out j hlt
          obtain ⟨b1, o1, rfl, hlb1, hc1⟩ := hl.at_ (by omega)
          have hcell : ∀ wr : World, Below w.heap.size w wr → wr.cell? ⟨b1, o1 + j, none⟩ = some (.slice p.A p.n p.c) := fun wr hb => (hb.cell (p := ⟨b1, o1 + j, none⟩) (by show b1 < _; omega)).trans (hc1 j _ (by rw [List.getElem?_map, hpj]; rfl))
          replace hcell := hcell _ hb
          have hr := (hp.rd p (List.mem_of_getElem? hpj)).keep hb hB
          have hjn := joinL_succ ps hpj
          have hle : s' + p.n ≤ s := by
            have h1 := TL.out (j + 1)
            rw [← hjn, List.length_append, ho.len, hr.len] at h1
            exact h1
          have JN : Keep _ := ⟨hjn⟩
          clear hc1 hjn hpj
          go_wp2_with (refine append_abs (by rfl) (.tmp 31) (.tmp 32) 23 (by rfl) w.heap.size 5 .u8 1 Try.underlying23 u8Elem A' s' c' (joinL (ps.take j)) (by rfl) ho B p.A p.n p.c p.bs (by rfl) hr (s' + p.n) (by rfl) (joinL (ps.take (j + 1))) JN.out (by omega) (by unfold maxLen; omega) hb.size ?_
                       intro A2 c2 w2 ho2 hb2
                       have hbb2 := hb.trans hb2
                       clear hb2)
          go_roundw
          case rel => exact ⟨j + 1, s' + p.n, A2, c2, by omega, by go_num, rfl, ho2, hbb2⟩
          case measure => simp [intOf]; omega
        · have ej : j = k := by omega
          subst ej
          rw [List.take_of_length_le (by rw [PL.out]; exact Nat.le_refl _)] at ho
          have es : s' = s := by have := ho.len; rw [HN.out] at this; exact this.symm
          subst es
          go_wp2
          go_ret
          exact ⟨A', c', rfl, ho, hb⟩
end Go.Proofs.Ytkjbfkhiijnemaa.Hk
