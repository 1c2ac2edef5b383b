/-
  Own text. The contracts of layer 6's reference: Windows.
-/
import Derived.Test.YthaoebamnlmfpaaFrRef7
import Derived.Test.YthaoebamnlmfpaaFrDig
import Derived.Test.YthaoebamnlmfpaaRegE
namespace Go.Proofs.Ythaoebamnlmfpaa.Fr
set_option linter.unusedVariables false
set_option linter.unusedSimpArgs false
open Go Go.RowKit Go.Proofs.Ythaoebamnlmfpaa.Num Go.Proofs.Ythaoebamnlmfpaa.Reg Go.Proofs.Ythaoebamnlmfpaa.Base Go.Proofs.Ythaoebamnlmfpaa.Limb Go.Proofs.Ythaoebamnlmfpaa.Bits

theorem own_ne {w : World} {b b' : Nat} {e e' : TypeId} {k k' : IntKind} {g g' n n' c c' : Nat} {xs ys : List Int} (h : Own w b e k (some ⟨g, 0, none⟩) n c xs) (h' : Own w b' e' k' (some ⟨g', 0, none⟩) n' c' ys) (hne : e ≠ e') : g ≠ g' := by
  rintro rfl
  rcases h.own.2 with ⟨hv, _⟩ | ⟨g1, cap, cur, hv, hg, hh, _⟩
  · cases hv
  · rcases h'.own.2 with ⟨hv', _⟩ | ⟨g2, cap', cur', hv', hg', hh', _⟩
    · cases hv'
    · cases hv
      cases hv'
      rw [hh] at hh'
      cases hh'
      exact hne rfl
theorem own_far {w w' : World} {base : Nat} {e : TypeId} {k : IntKind} {A : Option Addr} {n c : Nat} {xs : List Int} (h : Own w base e k A n c xs) (hh : ∀ g, A = some ⟨g, 0, none⟩ → w'.heap[g]? = w.heap[g]?) : Own w' base e k A n c xs := by
  refine ⟨h.own.1, ?_⟩
  rcases h.own.2 with h0 | ⟨g, cap, cur, hv, hg, h1, r⟩
  · exact .inl h0
  · refine .inr ⟨g, cap, cur, hv, hg, (hh g ?_).trans h1, r⟩
    injection hv
theorem own_base {w : World} {base b' : Nat} {e : TypeId} {k : IntKind} {A : Option Addr} {n c : Nat} {xs : List Int} (h : Own w base e k A n c xs) (hb : b' ≤ base) : Own w b' e k A n c xs := by
  refine ⟨h.own.1, ?_⟩
  rcases h.own.2 with h0 | ⟨g, cap, cur, hv, hg, r⟩
  · exact .inl h0
  · exact .inr ⟨g, cap, cur, hv, Nat.le_trans hb hg, r⟩
theorem wp_room (n : Nat) : wp n + 256 ≤ wp (n + 1) := by
  have := wp_pos n
  rw [wp_succ]
  omega
theorem fill_all_ (n : Nat) (F Z : Nat → Int) : fill n F Z n = tab n F := by
  unfold fill tab
  refine List.map_congr_left fun i hi => ?_
  rw [if_pos (List.mem_range.1 hi)]
theorem own_cells {w : World} {base : Nat} {e : TypeId} {k : IntKind} {g n c : Nat} {xs : List Int} (h : Own w base e k (some ⟨g, 0, none⟩) n c xs) (hn : 0 < n) : g < w.heap.size ∧ (∀ j, j < n → w.cell? ⟨g, j, none⟩ = some (.int k (nth xs j))) ∧ ∀ j, w.frozen? ⟨g, j, none⟩ = false := by
  obtain ⟨g2, hg, _, h1, _, h2, h3⟩ := h.at_ hn
  cases hg
  exact ⟨h1, h2, h3⟩
theorem i64Elem : IntElem Try.prog 3 .i64 8 := .of (by kernel_rfl) (by kernel_rfl)
theorem tne : 23 ≠ 3 := by decide

set_option maxRecDepth 100000 in
set_option maxHeartbeats 4000000 in
theorem refWindows_2 (A : Option Addr) (n c : Nat) (l : List Int) (B : Nat) (w : World) (hr : Rd w B A n .u64 l) (hwl : Words l) (hB : B ≤ w.heap.size) (hn : n ≤ 10000) : Calls Try.prog 31 #[.slice A n c, .int .i64 2] w fun e w' => ∃ A' m c', e = .returned (.tuple #[.slice A' m c', .int .i64 0]) ∧ Own w' w.heap.size 3 .i64 A' m c' (digs 2 (64 * n) (num l)) ∧ Below w.heap.size w w' := by
  obtain ⟨S, hS⟩ : ∃ S, w.heap.size = S := ⟨_, rfl⟩
  have hb0 : Below S w w := Below.refl _ _
  have HSS : Keep (∀ x : World, Below S w x → S ≤ x.heap.size) := ⟨fun x hb => by have := hb.size; omega⟩
  have HRD : Keep (∀ x : World, Below S w x → Rd x x.heap.size A n .u64 l) := ⟨fun x hb => (hr.keep hb (by omega)).more (Nat.le_trans hB (Nat.le_trans (by omega) (HSS.out _ hb)))⟩
  have LN : Keep (l.length = n) := ⟨hr.len⟩
  have HN : Keep (n ≤ 10000) := ⟨hn⟩
  obtain ⟨res, hres⟩ : ∃ o, digs 2 (64 * n) (num l) = o := ⟨_, rfl⟩
  have H0 : Keep (Words (l ++ [0]) ∧ (l ++ [0]).length = n + 1 ∧ num (l ++ [0]) < wp n ∧ num (l ++ [0]) < 2 ^ (64 * n) ∧ 0 + 64 * n ≤ 64 * n ∧ [] ++ digs 2 (64 * n) (num (l ++ [0])) = res) := ⟨by
    have e : num (l ++ [0]) = num l := by rw [num_append]; simp [num, low, nth]
    have hb := num_bounds hwl
    rw [LN.out] at hb
    refine ⟨words_append hwl (words_of _ (by decide)), by rw [List.length_append, LN.out]; rfl, by rw [e]; exact hb.2, by rw [e, ← tp, tp_wp]; exact hb.2, by omega, by rw [e]; exact hres⟩⟩
  rw [hres, hS]
  clear hr hwl hB hn hres
  go_enter Try.func31, Try.ntmps31
  go_wp2_with (first
    | (refine append_abs (by rfl) (.tmp 22) (.tmp 23) 39 (by rfl) S 23 .u64 8 Try.underlying39 u64Elem A1 n c1 l (by rfl) (ho1.keep ((Below.refl _ _).alloc (Nat.le_refl _) _)) (w1.heap.size + 1) (some ⟨w1.heap.size, 0, none⟩) 1 1 [0] (by rfl) (Rd.of_has (Has.new w1 23 (vals .u64 [0])) (by omega) (by rfl) (by simp)) (n + 1) (by rfl) (l ++ [0]) (by rfl) (by have := HN.out; omega) (by have := HN.out; unfold maxLen; omega) (by have := HSS.out _ hb1; simp; omega) ?_
       intro A2 c2 w2 ho2 hbx
       have hb2 := (hb1.alloc (HSS.out _ hb1) (.cells (vals .u64 [0]) 23)).trans hbx
       clear hbx hb1 ho1)
    | (refine append_abs (by rfl) (.tmp 20) (.tmp 21) 39 (by rfl) S 23 .u64 8 Try.underlying39 u64Elem (some ⟨S, 0, none⟩) 0 0 [] (by rfl) (Own.of_has (Has.new' w hS.symm 23 (vals .u64 [])) (Nat.le_refl _) (Nat.zero_le _)) (S + 1) A n c l (by rfl) (((HRD.out _ hb0).keep ((Below.refl w.heap.size w).alloc (Nat.le_refl _) _) (Nat.le_refl _)).more (by omega)) n (Nat.zero_add n) l (by rfl) (by have := HN.out; omega) (by have := HN.out; unfold maxLen; omega) (by simp; omega) ?_
       intro A1 c1 w1 ho1 hbx
       have hb1 := (hb0.alloc (by omega) (.cells (vals .u64 []) 23)).trans hbx
       clear hbx))
  go_loopg [6, 7] (64 * n) (fun (gk : Nat) vl vo wr => ∃ (A6 : Option Addr) (c6 : Nat) (L : List Int) (A7 : Option Addr) (m c7 : Nat) (D : List Int), vl = .slice A6 (n + 1) c6 ∧ vo = .slice A7 m c7 ∧ Own wr S 23 .u64 A6 (n + 1) c6 L ∧ Own wr S 3 .i64 A7 m c7 D ∧ Keep (Words L ∧ L.length = n + 1 ∧ num L < wp n ∧ num L < 2 ^ gk ∧ m + gk ≤ 64 * n ∧ D ++ digs 2 gk (num L) = res) ∧ Below S w wr)
  case atStart => exact ⟨A2, c2, l ++ [0], none, 0, 0, [], rfl, rfl, ho2, own_none _ _ _ _, H0, hb2⟩
  case round =>
    clear ho2 hb2
    obtain ⟨A6, c6, L, A7, m, c7, D, rfl, rfl, hoL, hoD, HI, hb⟩ := hrel
    have hv0 := (num_bounds HI.out.1).1
    have hrL := hoL.rd
    by_cases hz : num L = 0
    · have CM : Keep (∀ y : World, Rd y y.heap.size A6 (n + 1) .u64 L → Calls Try.prog 45 #[.slice A6 (n + 1) c6, .slice none 0 0] y fun e y' => e = .returned (.int .i64 0) ∧ y = y') := ⟨fun y h => by
        have h1 := refCmp_c A6 (n + 1) c6 L none 0 0 [] y.heap.size y h HI.out.1 ⟨rfl, fun h => absurd h (by omega)⟩ (words_of _ (by intro i hi; simp at hi)) (by have := HN.out; omega) (by omega)
        have e : cmpL L [] = 0 := by rw [cmpL, num_nil, if_neg (by omega), if_pos hz]
        rw [e] at h1
        exact h1⟩
      have FIN : Keep (D = res) := ⟨by have := HI.out.2.2.2.2.2; rw [hz, digs_zero, List.append_nil] at this; exact this⟩
      clear hz hv0
      go_wp2_with (go_at_call 45; refine (CM.out _ hrL).mono ?_; rintro e w' ⟨rfl, rfl⟩)
      go_ret2
      exact ⟨A7, m, c7, rfl, by rw [← FIN.out]; exact hoD, hb⟩
    · obtain ⟨g, rfl⟩ : ∃ g, gk = g + 1 := ⟨gk - 1, by
        rcases gk with _ | g
        · have := HI.out.2.2.2.1; simp at this; omega
        · omega⟩
      have CM : Keep (∀ y : World, Rd y y.heap.size A6 (n + 1) .u64 L → Calls Try.prog 45 #[.slice A6 (n + 1) c6, .slice none 0 0] y fun e y' => e = .returned (.int .i64 1) ∧ y = y') := ⟨fun y h => by
        have h1 := refCmp_c A6 (n + 1) c6 L none 0 0 [] y.heap.size y h HI.out.1 ⟨rfl, fun h => absurd h (by omega)⟩ (words_of _ (by intro i hi; simp at hi)) (by have := HN.out; omega) (by omega)
        have e : cmpL L [] = 1 := by rw [cmpL, num_nil, if_neg (by omega), if_neg hz]
        rw [e] at h1
        exact h1⟩
      obtain ⟨gl, rfl, hgl0, hgl1, hgn, hcl, hfl⟩ := hoL.at_ (by omega)
      obtain ⟨x0, hx0⟩ : ∃ x, nth L 0 = x := ⟨_, rfl⟩
      have hc0 := hcl 0 (by omega)
      rw [hx0] at hc0
      obtain ⟨d0, hd0⟩ : ∃ d, x0 % 4 = d := ⟨_, rfl⟩
      have bd0 : 0 ≤ d0 ∧ d0 < 4 := by omega
      have hmod : num L % (2 * 2) = d0 := by rw [← hd0, ← hx0]; exact num_mod_head (B := 4) (C := 4611686018427387904) (by decide)
      have hdig : dg 2 (num L) = if 2 < d0 then d0 - 4 else d0 := by unfold dg; rw [hmod]; rfl
      have hdb := dg_bounds (H := 2) (v := num L) (by decide)
      have hnx := nx_eq (H := 2) (v := num L) (by decide)
      have hnl := nx_less (H := 2) (v := num L) (by decide) hv0 HI.out.2.2.2.1
      have hn0 := nx_nonneg (H := 2) (v := num L) (by decide) hv0
      have hds : D ++ dg 2 (num L) :: digs 2 g (nx 2 (num L)) = res := by rw [← digs_step hz]; exact HI.out.2.2.2.2.2
      have NX : Keep (nx 2 (num L) < 2 ^ g ∧ m + 1 + g ≤ 64 * n ∧ 0 ≤ nx 2 (num L) ∧ nx 2 (num L) < wp n) := ⟨hnl, by have := HI.out.2.2.2.2.1; omega, hn0, by have := HI.out.2.2.1; omega⟩
      by_cases hbig : 2 < d0
      · have htm : x0.tmod 4 = d0 := by rw [Int.tmod_eq_emod_of_nonneg (by rw [← hx0]; exact (HI.out.1 0).1)]; exact hd0
        have hwd : wrap64 d0 = d0 := by unfold wrap64; omega
        obtain ⟨dgt, hdg⟩ : ∃ d, d0 - 4 = d := ⟨_, rfl⟩
        obtain ⟨dd, hdd⟩ : ∃ d, -dgt = d := ⟨_, rfl⟩
        rw [if_pos hbig, hdg] at hdig
        have bdd : 0 ≤ dd ∧ dd ≤ 256 := by omega
        have e1 : wrap64 (d0 - 4) = dgt := by rw [hdg]; unfold wrap64; omega
        have e2 : wrap64 (-dgt) = dd := by rw [hdd]; unfold wrap64; omega
        have e3 : IntKind.u64.wrap dd = dd := by rw [IntKind.wrap_u64]; omega
        obtain ⟨M, hM⟩ : ∃ o, addL L [dd] = o := ⟨_, rfl⟩
        have n1 : num [dd] = dd := by simp [num, low, nth, wp]
        have hnM : num M = 2 * 2 * nx 2 (num L) := by
          have hr := wp_room n
          have hlt := HI.out.2.2.1
          rw [← hM, addL, HI.out.2.1, show max (n + 1) [dd].length = n + 1 from Nat.max_eq_left (by simp), n1, num_wd_of (by omega) (by omega)]
          omega
        have HM : Keep (Words M ∧ M.length = n + 1 ∧ num M / 4 = nx 2 (num L)) := ⟨by rw [← hM]; exact wd_words _ _, by rw [← hM, addL, wd_len, HI.out.2.1]; exact Nat.max_eq_left (by simp), by rw [hnM]; exact Int.mul_ediv_cancel_left _ (by decide)⟩
        have HDS : Keep (D ++ dgt :: digs 2 g (nx 2 (num L)) = res) := ⟨by rw [← hdig]; exact hds⟩
        have PA : Keep (∀ (y : World) (g' : Nat), Rd y y.heap.size (some ⟨gl, 0, none⟩) (n + 1) .u64 L → Has y g' 23 (vals .u64 [dd]) → Calls Try.prog 51 #[.slice (some ⟨gl, 0, none⟩) (n + 1) c6, .slice (some ⟨g', 0, none⟩) 1 1] y fun e y' => ∃ A9 c9, e = .returned (.tuple #[.slice A9 (n + 1) c9, .int .u64 (addC L [dd])]) ∧ Own y' y.heap.size 23 .u64 A9 (n + 1) c9 M ∧ Below y.heap.size y y') := ⟨fun y g' h h' => by
          have h1 := refAdd_c (some ⟨gl, 0, none⟩) (n + 1) c6 L (some ⟨g', 0, none⟩) 1 1 [dd] y.heap.size y h HI.out.1 (Rd.of_has h' h'.lt (by rfl) (by simp)) (words_one (by omega) (by omega)) (Nat.le_refl _) (by have := HN.out; omega) (by omega)
          rw [hM, show max (n + 1) 1 = n + 1 from Nat.max_eq_left (by omega)] at h1
          exact h1⟩
        obtain ⟨cc, hcc⟩ : ∃ o, addC L [dd] = o := ⟨_, rfl⟩
        rw [hcc] at PA
        clear hnx hnl hn0 hdb hcl hmod hds hdig hv0 hz hd0 hx0 hM n1 hnM hcc
        go_wp2_with (first
          | (refine append_abs2 (by rfl) (.tmp 66) (.tmp 68) 40 (by rfl) S 3 .i64 8 Try.underlying40 i64Elem A7 m c7 D (by rfl) (hoD20.keep ((Below.refl _ _).alloc (Nat.le_refl _) _)) (w20.heap.size + 1) (some ⟨w20.heap.size, 0, none⟩) 1 1 [dgt] (by rfl) (Rd.of_has (Has.new w20 3 (vals .i64 [dgt])) (by omega) (by rfl) (by simp)) (m + 1) (by rfl) (D ++ [dgt]) (by rfl) (by have := NX.out.2.1; have := HN.out; omega) (by have := NX.out.2.1; have := HN.out; unfold maxLen; omega) (by have := HSS.out _ hb20; simp; omega) ?_
             intro A8 c8 w21 hoE21 hbx hsame
             have hal := (Below.refl w20.heap.size w20).alloc (Nat.le_refl _) (.cells (vals .i64 [dgt]) 3)
             have hoM21 := own_base (own_far (hoM20.keep hal) (fun g' hA => by
               cases hA
               exact hsame _ (by simp; omega) (fun g2 hA2 => by subst hA2; exact own_ne hoM20 hoD20 tne))) (HSS.out _ hb)
             have hb21 := (hb20.alloc (HSS.out _ hb20) (.cells (vals .i64 [dgt]) 3)).trans hbx
             clear hbx hsame hal hoM20 hoD20 hb20)
          | (go_at_call 51
             have hal := (Below.refl wr.heap.size wr).alloc (Nat.le_refl _) (.cells (vals .u64 [dd]) 23)
             refine (PA.out _ wr.heap.size (rd_here hrL hal) (Has.new _ _ _)).mono ?_
             rintro e w20 ⟨A9, c9, rfl, hoM20', hq⟩
             have hbe := hal.trans (hq.mono hal.size)
             have hoM20 := own_base (b' := wr.heap.size) hoM20' hal.size
             obtain ⟨gm, rfl, hgm0, hgm1, hgm2, -, -⟩ := hoM20.at_ (by omega)
             have hoD20 := hoD.keep hbe
             have hb20 := hb.trans (hbe.mono (HSS.out _ hb))
             clear hal hq hbe hoM20' hoL hoD hrL)
          | (go_at_call 45; refine (CM.out _ hrL).mono ?_; rintro e w' ⟨rfl, rfl⟩))
        go_loopg [13] (n + 1) (fun (gk : Nat) vi wr => ∃ k : Nat, k + gk = n + 1 ∧ vi = .int .i64 k ∧ Own wr S 23 .u64 (some ⟨gm, 0, none⟩) (n + 1) c9 (fill (n + 1) (shw M 4 4611686018427387904) (nth M) k) ∧ Own wr S 3 .i64 A8 (m + 1) c8 (D ++ [dgt]) ∧ Below S w wr)
        case atStart => exact ⟨0, by omega, rfl, by rw [fill_zero _ _ _ HM.out.2.1]; exact hoM21, hoE21, hb21⟩
        case round =>
          clear hoM21 hoE21 hb21
          obtain ⟨k, hk, rfl, hoP, hoE, hb5⟩ := hrel
          by_cases hlt : k < n + 1
          · obtain ⟨j, rfl⟩ : ∃ j, gk = j + 1 := ⟨gk - 1, by omega⟩
            obtain ⟨x, hx⟩ : ∃ x, nth M k = x := ⟨_, rfl⟩
            obtain ⟨y, hy⟩ : ∃ y, nth M (k + 1) = y := ⟨_, rfl⟩
            have bx := HM.out.1 k
            have by' := HM.out.1 (k + 1)
            rw [hx] at bx
            rw [hy] at by'
            have hcx : nth (fill (n + 1) (shw M 4 4611686018427387904) (nth M) k) k = x := by rw [fill_nth _ _ _ hlt, if_neg (by omega)]; exact hx
            have hcy : nth (fill (n + 1) (shw M 4 4611686018427387904) (nth M) k) (k + 1) = y := by
              rcases Nat.lt_or_ge (k + 1) (n + 1) with h | h
              · rw [fill_nth _ _ _ h, if_neg (by omega)]; exact hy
              · rw [nth_ge (by rw [fill_len]; exact h), ← hy, nth_ge (by rw [HM.out.2.1]; exact h)]
            obtain ⟨z, hz⟩ : ∃ z, shw M 4 4611686018427387904 k = z := ⟨_, rfl⟩
            have hzz : x / 4 + y % 4 * 4611686018427387904 = z := by rw [← hz, ← hx, ← hy]; rfl
            have bz := shw_word HM.out.1 (B := 4) (C := 4611686018427387904) (by decide) (by decide) (by decide) k
            rw [hz] at bz
            obtain ⟨P, hP⟩ : ∃ P, fill (n + 1) (shw M 4 4611686018427387904) (nth M) k = P := ⟨_, rfl⟩
            rw [hP] at hoP hcx hcy
            have HP : Keep (P.set k z = fill (n + 1) (shw M 4 4611686018427387904) (nth M) (k + 1)) := ⟨by rw [← hP]; exact fill_set _ _ hlt hz.symm⟩
            obtain ⟨hgs, hcP, -⟩ := own_cells hoP (Nat.succ_pos n)
            have hck := hcP k hlt
            rw [hcx] at hck
            have AT : Keep (∀ y' : World, Rd y' y'.heap.size (some ⟨gm, 0, none⟩) (n + 1) .u64 P → Calls Try.prog 52 #[.slice (some ⟨gm, 0, none⟩) (n + 1) c9, .int .i64 ((k : Int) + 1)] y' fun e y2 => e = .returned (.int .u64 y) ∧ Below y'.heap.size y' y2) := ⟨fun y' h => by
              have h1 := at_c (some ⟨gm, 0, none⟩) (n + 1) c9 P y'.heap.size (k + 1) y' h
              rw [hcy] at h1
              exact h1.mono fun e x' ⟨he, hx⟩ => ⟨he, hx ▸ Below.refl _ _⟩⟩
            have hrP := hoP.rd
            have hk1 : wrap64 ((k : Int) + 1) = (k : Int) + 1 := by have := HN.out; unfold wrap64; omega
            have HK2 : Keep (wrap64 ((k : Int) + 1) = ((k + 1 : Nat) : Int)) := ⟨hk1⟩
            obtain ⟨yc, hyc⟩ : ∃ v, y % 4 * 4611686018427387904 = v := ⟨_, rfl⟩
            have hsh : IntKind.u64.wrap (y * 4611686018427387904) = yc := by rw [IntKind.wrap_u64]; omega
            have hsm : IntKind.u64.wrap (x / 4 + yc) = z := by rw [IntKind.wrap_u64]; omega
            clear hzz hyc bx by' bz
            clear hz hx hy hP hcx hcy hcP
            go_wp2
            refine wp_fam 19 (by kernel_rfl) (by kernel_rfl) (fun I hI' fw hf hback => ?_)
            simp only [List.take_succ_cons, List.take_zero, List.drop_succ_cons, List.drop_zero]
            have c0 : ∀ j, (fw j).cell? ⟨gm, k, none⟩ = some (.int .u64 x) := fun j => ((hf j).cell (p := ⟨gm, k, none⟩) hgs).trans hck
            repeat (first | go_big_quiet_step (first | fail | (go_at_call 52; with_reducible exact calls_fam hf hback (AT.out _ (rd_here hrP (hf _))))))
            refine wpQuiet_nil ?_
            intro w6 hb6
            clear hsh hsm hk1
            have hoP6 := hoP.keep hb6
            have hoE6 := hoE.keep hb6
            have hbb6 := hb5.trans (hb6.mono (HSS.out _ hb5))
            clear c0 hf hback hb6 hck hrP hoP hoE hb5 AT
            obtain ⟨hgs6, hcP6, hfP6⟩ := own_cells hoP6 (Nat.succ_pos n)
            have co := hcP6 k hlt
            have zo := hfP6 k
            have hoP7 := hoP6.set_ hlt z
            rw [HP.out] at hoP7
            have hoE7 := own_far (w' := w6.setCell ⟨gm, k, none⟩ (.int .u64 z)) hoE6 (fun g' hA => heap_setCell_other w6 _ _ _ (by subst hA; exact (own_ne hoP6 hoE6 tne).symm))
            have hb7 := hbb6.setCell (p := ⟨gm, k, none⟩) (Nat.le_trans (HSS.out _ hb) hgm0) (.int .u64 z)
            clear hcP6 hfP6 hoP6 hoE6 hbb6
            go_wp2
            go_roundg j
            case measure => exact Nat.lt_succ_self _
            case rel => exact ⟨k + 1, by rw [Nat.add_assoc, Nat.add_comm 1 j]; exact hk, by first | rfl | rw [HK2.out], hoP7, hoE7, hb7⟩
          · obtain rfl : gk = 0 := by omega
            obtain rfl : k = n + 1 := by omega
            have eP : fill (n + 1) (shw M 4 4611686018427387904) (nth M) (n + 1) = tab (n + 1) (shw M 4 4611686018427387904) := fill_all_ _ _ _
            rw [eP] at hoP
            have hnum := shift_num HM.out.2.1 (B := 4) (C := 4611686018427387904) (by decide) (by decide)
            rw [HM.out.2.2] at hnum
            have HR : Keep (Words (tab (n + 1) (shw M 4 4611686018427387904)) ∧ (tab (n + 1) (shw M 4 4611686018427387904)).length = n + 1 ∧ num (tab (n + 1) (shw M 4 4611686018427387904)) < wp n ∧ num (tab (n + 1) (shw M 4 4611686018427387904)) < 2 ^ g ∧ m + 1 + g ≤ 64 * n ∧ (D ++ [dgt]) ++ digs 2 g (num (tab (n + 1) (shw M 4 4611686018427387904))) = res) := ⟨words_of _ (fun i hi => by
              rw [tab_len] at hi
              rw [tab_nth _ hi]
              exact shw_word HM.out.1 (by decide) (by decide) (by decide) i), tab_len _ _, by rw [hnum]; exact NX.out.2.2.2, by rw [hnum]; exact NX.out.1, NX.out.2.1, by rw [hnum, List.append_assoc]; exact HDS.out⟩
            clear eP hnum
            go_wp2
            go_roundg g
            case measure => omega
            case rel => exact ⟨_, _, _, _, _, _, _, rfl, rfl, hoP, hoE, HR, hb5⟩
      · have htm : x0.tmod 4 = d0 := by rw [Int.tmod_eq_emod_of_nonneg (by rw [← hx0]; exact (HI.out.1 0).1)]; exact hd0
        have hwd : wrap64 d0 = d0 := by unfold wrap64; omega
        obtain ⟨dgt, hdg⟩ : ∃ d, d0 = d := ⟨_, rfl⟩
        obtain ⟨dd, hdd⟩ : ∃ d, dgt = d := ⟨_, rfl⟩
        rw [if_neg hbig, hdg] at hdig
        have bdd : 0 ≤ dd ∧ dd ≤ 256 := by omega
        have e4 : dd = d0 := by omega
        have e3 : IntKind.u64.wrap d0 = d0 := by rw [IntKind.wrap_u64]; omega
        obtain ⟨M, hM⟩ : ∃ o, subL L [dd] = o := ⟨_, rfl⟩
        have n1 : num [dd] = dd := by simp [num, low, nth, wp]
        have hnM : num M = 2 * 2 * nx 2 (num L) := by
          have hr := wp_room n
          have hlt := HI.out.2.2.1
          rw [← hM, subL, HI.out.2.1, show max (n + 1) [dd].length = n + 1 from Nat.max_eq_left (by simp), n1, num_wd_of (by omega) (by omega)]
          omega
        have HM : Keep (Words M ∧ M.length = n + 1 ∧ num M / 4 = nx 2 (num L)) := ⟨by rw [← hM]; exact wd_words _ _, by rw [← hM, subL, wd_len, HI.out.2.1]; exact Nat.max_eq_left (by simp), by rw [hnM]; exact Int.mul_ediv_cancel_left _ (by decide)⟩
        have HDS : Keep (D ++ dgt :: digs 2 g (nx 2 (num L)) = res) := ⟨by rw [← hdig]; exact hds⟩
        have PA : Keep (∀ (y : World) (g' : Nat), Rd y y.heap.size (some ⟨gl, 0, none⟩) (n + 1) .u64 L → Has y g' 23 (vals .u64 [dd]) → Calls Try.prog 40 #[.slice (some ⟨gl, 0, none⟩) (n + 1) c6, .slice (some ⟨g', 0, none⟩) 1 1] y fun e y' => ∃ A9 c9, e = .returned (.tuple #[.slice A9 (n + 1) c9, .int .u64 (subC L [dd])]) ∧ Own y' y.heap.size 23 .u64 A9 (n + 1) c9 M ∧ Below y.heap.size y y') := ⟨fun y g' h h' => by
          have h1 := refSub_c (some ⟨gl, 0, none⟩) (n + 1) c6 L (some ⟨g', 0, none⟩) 1 1 [dd] y.heap.size y h HI.out.1 (Rd.of_has h' h'.lt (by rfl) (by simp)) (words_one (by omega) (by omega)) (Nat.le_refl _) (by have := HN.out; omega) (by omega)
          rw [hM, show max (n + 1) 1 = n + 1 from Nat.max_eq_left (by omega)] at h1
          exact h1⟩
        obtain ⟨cc, hcc⟩ : ∃ o, subC L [dd] = o := ⟨_, rfl⟩
        rw [hcc] at PA
        clear hnx hnl hn0 hdb hcl hmod hds hdig hv0 hz hd0 hx0 hM n1 hnM hcc
        rw [e4] at PA
        clear e4 hdd bdd
        have HDG : dgt = d0 := hdg.symm
        subst HDG
        go_wp2_with (first
          | (refine append_abs2 (by rfl) (.tmp 66) (.tmp 68) 40 (by rfl) S 3 .i64 8 Try.underlying40 i64Elem A7 m c7 D (by rfl) (hoD20.keep ((Below.refl _ _).alloc (Nat.le_refl _) _)) (w20.heap.size + 1) (some ⟨w20.heap.size, 0, none⟩) 1 1 [dgt] (by rfl) (Rd.of_has (Has.new w20 3 (vals .i64 [dgt])) (by omega) (by rfl) (by simp)) (m + 1) (by rfl) (D ++ [dgt]) (by rfl) (by have := NX.out.2.1; have := HN.out; omega) (by have := NX.out.2.1; have := HN.out; unfold maxLen; omega) (by have := HSS.out _ hb20; simp; omega) ?_
             intro A8 c8 w21 hoE21 hbx hsame
             have hal := (Below.refl w20.heap.size w20).alloc (Nat.le_refl _) (.cells (vals .i64 [dgt]) 3)
             have hoM21 := own_base (own_far (hoM20.keep hal) (fun g' hA => by
               cases hA
               exact hsame _ (by simp; omega) (fun g2 hA2 => by subst hA2; exact own_ne hoM20 hoD20 tne))) (HSS.out _ hb)
             have hb21 := (hb20.alloc (HSS.out _ hb20) (.cells (vals .i64 [dgt]) 3)).trans hbx
             clear hbx hsame hal hoM20 hoD20 hb20)
          | (go_at_call 40
             have hal := (Below.refl wr.heap.size wr).alloc (Nat.le_refl _) (.cells (vals .u64 [dgt]) 23)
             refine (PA.out _ wr.heap.size (rd_here hrL hal) (Has.new _ _ _)).mono ?_
             rintro e w20 ⟨A9, c9, rfl, hoM20', hq⟩
             have hbe := hal.trans (hq.mono hal.size)
             have hoM20 := own_base (b' := wr.heap.size) hoM20' hal.size
             obtain ⟨gm, rfl, hgm0, hgm1, hgm2, -, -⟩ := hoM20.at_ (by omega)
             have hoD20 := hoD.keep hbe
             have hb20 := hb.trans (hbe.mono (HSS.out _ hb))
             clear hal hq hbe hoM20' hoL hoD hrL)
          | (go_at_call 45; refine (CM.out _ hrL).mono ?_; rintro e w' ⟨rfl, rfl⟩))
        go_loopg [13] (n + 1) (fun (gk : Nat) vi wr => ∃ k : Nat, k + gk = n + 1 ∧ vi = .int .i64 k ∧ Own wr S 23 .u64 (some ⟨gm, 0, none⟩) (n + 1) c9 (fill (n + 1) (shw M 4 4611686018427387904) (nth M) k) ∧ Own wr S 3 .i64 A8 (m + 1) c8 (D ++ [dgt]) ∧ Below S w wr)
        case atStart => exact ⟨0, by omega, rfl, by rw [fill_zero _ _ _ HM.out.2.1]; exact hoM21, hoE21, hb21⟩
        case round =>
          clear hoM21 hoE21 hb21
          obtain ⟨k, hk, rfl, hoP, hoE, hb5⟩ := hrel
          by_cases hlt : k < n + 1
          · obtain ⟨j, rfl⟩ : ∃ j, gk = j + 1 := ⟨gk - 1, by omega⟩
            obtain ⟨x, hx⟩ : ∃ x, nth M k = x := ⟨_, rfl⟩
            obtain ⟨y, hy⟩ : ∃ y, nth M (k + 1) = y := ⟨_, rfl⟩
            have bx := HM.out.1 k
            have by' := HM.out.1 (k + 1)
            rw [hx] at bx
            rw [hy] at by'
            have hcx : nth (fill (n + 1) (shw M 4 4611686018427387904) (nth M) k) k = x := by rw [fill_nth _ _ _ hlt, if_neg (by omega)]; exact hx
            have hcy : nth (fill (n + 1) (shw M 4 4611686018427387904) (nth M) k) (k + 1) = y := by
              rcases Nat.lt_or_ge (k + 1) (n + 1) with h | h
              · rw [fill_nth _ _ _ h, if_neg (by omega)]; exact hy
              · rw [nth_ge (by rw [fill_len]; exact h), ← hy, nth_ge (by rw [HM.out.2.1]; exact h)]
            obtain ⟨z, hz⟩ : ∃ z, shw M 4 4611686018427387904 k = z := ⟨_, rfl⟩
            have hzz : x / 4 + y % 4 * 4611686018427387904 = z := by rw [← hz, ← hx, ← hy]; rfl
            have bz := shw_word HM.out.1 (B := 4) (C := 4611686018427387904) (by decide) (by decide) (by decide) k
            rw [hz] at bz
            obtain ⟨P, hP⟩ : ∃ P, fill (n + 1) (shw M 4 4611686018427387904) (nth M) k = P := ⟨_, rfl⟩
            rw [hP] at hoP hcx hcy
            have HP : Keep (P.set k z = fill (n + 1) (shw M 4 4611686018427387904) (nth M) (k + 1)) := ⟨by rw [← hP]; exact fill_set _ _ hlt hz.symm⟩
            obtain ⟨hgs, hcP, -⟩ := own_cells hoP (Nat.succ_pos n)
            have hck := hcP k hlt
            rw [hcx] at hck
            have AT : Keep (∀ y' : World, Rd y' y'.heap.size (some ⟨gm, 0, none⟩) (n + 1) .u64 P → Calls Try.prog 52 #[.slice (some ⟨gm, 0, none⟩) (n + 1) c9, .int .i64 ((k : Int) + 1)] y' fun e y2 => e = .returned (.int .u64 y) ∧ Below y'.heap.size y' y2) := ⟨fun y' h => by
              have h1 := at_c (some ⟨gm, 0, none⟩) (n + 1) c9 P y'.heap.size (k + 1) y' h
              rw [hcy] at h1
              exact h1.mono fun e x' ⟨he, hx⟩ => ⟨he, hx ▸ Below.refl _ _⟩⟩
            have hrP := hoP.rd
            have hk1 : wrap64 ((k : Int) + 1) = (k : Int) + 1 := by have := HN.out; unfold wrap64; omega
            have HK2 : Keep (wrap64 ((k : Int) + 1) = ((k + 1 : Nat) : Int)) := ⟨hk1⟩
            obtain ⟨yc, hyc⟩ : ∃ v, y % 4 * 4611686018427387904 = v := ⟨_, rfl⟩
            have hsh : IntKind.u64.wrap (y * 4611686018427387904) = yc := by rw [IntKind.wrap_u64]; omega
            have hsm : IntKind.u64.wrap (x / 4 + yc) = z := by rw [IntKind.wrap_u64]; omega
            clear hzz hyc bx by' bz
            clear hz hx hy hP hcx hcy hcP
            go_wp2
            refine wp_fam 19 (by kernel_rfl) (by kernel_rfl) (fun I hI' fw hf hback => ?_)
            simp only [List.take_succ_cons, List.take_zero, List.drop_succ_cons, List.drop_zero]
            have c0 : ∀ j, (fw j).cell? ⟨gm, k, none⟩ = some (.int .u64 x) := fun j => ((hf j).cell (p := ⟨gm, k, none⟩) hgs).trans hck
            repeat (first | go_big_quiet_step (first | fail | (go_at_call 52; with_reducible exact calls_fam hf hback (AT.out _ (rd_here hrP (hf _))))))
            refine wpQuiet_nil ?_
            intro w6 hb6
            clear hsh hsm hk1
            have hoP6 := hoP.keep hb6
            have hoE6 := hoE.keep hb6
            have hbb6 := hb5.trans (hb6.mono (HSS.out _ hb5))
            clear c0 hf hback hb6 hck hrP hoP hoE hb5 AT
            obtain ⟨hgs6, hcP6, hfP6⟩ := own_cells hoP6 (Nat.succ_pos n)
            have co := hcP6 k hlt
            have zo := hfP6 k
            have hoP7 := hoP6.set_ hlt z
            rw [HP.out] at hoP7
            have hoE7 := own_far (w' := w6.setCell ⟨gm, k, none⟩ (.int .u64 z)) hoE6 (fun g' hA => heap_setCell_other w6 _ _ _ (by subst hA; exact (own_ne hoP6 hoE6 tne).symm))
            have hb7 := hbb6.setCell (p := ⟨gm, k, none⟩) (Nat.le_trans (HSS.out _ hb) hgm0) (.int .u64 z)
            clear hcP6 hfP6 hoP6 hoE6 hbb6
            go_wp2
            go_roundg j
            case measure => exact Nat.lt_succ_self _
            case rel => exact ⟨k + 1, by rw [Nat.add_assoc, Nat.add_comm 1 j]; exact hk, by first | rfl | rw [HK2.out], hoP7, hoE7, hb7⟩
          · obtain rfl : gk = 0 := by omega
            obtain rfl : k = n + 1 := by omega
            have eP : fill (n + 1) (shw M 4 4611686018427387904) (nth M) (n + 1) = tab (n + 1) (shw M 4 4611686018427387904) := fill_all_ _ _ _
            rw [eP] at hoP
            have hnum := shift_num HM.out.2.1 (B := 4) (C := 4611686018427387904) (by decide) (by decide)
            rw [HM.out.2.2] at hnum
            have HR : Keep (Words (tab (n + 1) (shw M 4 4611686018427387904)) ∧ (tab (n + 1) (shw M 4 4611686018427387904)).length = n + 1 ∧ num (tab (n + 1) (shw M 4 4611686018427387904)) < wp n ∧ num (tab (n + 1) (shw M 4 4611686018427387904)) < 2 ^ g ∧ m + 1 + g ≤ 64 * n ∧ (D ++ [dgt]) ++ digs 2 g (num (tab (n + 1) (shw M 4 4611686018427387904))) = res) := ⟨words_of _ (fun i hi => by
              rw [tab_len] at hi
              rw [tab_nth _ hi]
              exact shw_word HM.out.1 (by decide) (by decide) (by decide) i), tab_len _ _, by rw [hnum]; exact NX.out.2.2.2, by rw [hnum]; exact NX.out.1, NX.out.2.1, by rw [hnum, List.append_assoc]; exact HDS.out⟩
            clear eP hnum
            go_wp2
            go_roundg g
            case measure => omega
            case rel => exact ⟨_, _, _, _, _, _, _, rfl, rfl, hoP, hoE, HR, hb5⟩

set_option maxRecDepth 100000 in
set_option maxHeartbeats 4000000 in
theorem refWindows_3 (A : Option Addr) (n c : Nat) (l : List Int) (B : Nat) (w : World) (hr : Rd w B A n .u64 l) (hwl : Words l) (hB : B ≤ w.heap.size) (hn : n ≤ 10000) : Calls Try.prog 31 #[.slice A n c, .int .i64 3] w fun e w' => ∃ A' m c', e = .returned (.tuple #[.slice A' m c', .int .i64 0]) ∧ Own w' w.heap.size 3 .i64 A' m c' (digs 4 (64 * n) (num l)) ∧ Below w.heap.size w w' := by
  obtain ⟨S, hS⟩ : ∃ S, w.heap.size = S := ⟨_, rfl⟩
  have hb0 : Below S w w := Below.refl _ _
  have HSS : Keep (∀ x : World, Below S w x → S ≤ x.heap.size) := ⟨fun x hb => by have := hb.size; omega⟩
  have HRD : Keep (∀ x : World, Below S w x → Rd x x.heap.size A n .u64 l) := ⟨fun x hb => (hr.keep hb (by omega)).more (Nat.le_trans hB (Nat.le_trans (by omega) (HSS.out _ hb)))⟩
  have LN : Keep (l.length = n) := ⟨hr.len⟩
  have HN : Keep (n ≤ 10000) := ⟨hn⟩
  obtain ⟨res, hres⟩ : ∃ o, digs 4 (64 * n) (num l) = o := ⟨_, rfl⟩
  have H0 : Keep (Words (l ++ [0]) ∧ (l ++ [0]).length = n + 1 ∧ num (l ++ [0]) < wp n ∧ num (l ++ [0]) < 2 ^ (64 * n) ∧ 0 + 64 * n ≤ 64 * n ∧ [] ++ digs 4 (64 * n) (num (l ++ [0])) = res) := ⟨by
    have e : num (l ++ [0]) = num l := by rw [num_append]; simp [num, low, nth]
    have hb := num_bounds hwl
    rw [LN.out] at hb
    refine ⟨words_append hwl (words_of _ (by decide)), by rw [List.length_append, LN.out]; rfl, by rw [e]; exact hb.2, by rw [e, ← tp, tp_wp]; exact hb.2, by omega, by rw [e]; exact hres⟩⟩
  rw [hres, hS]
  clear hr hwl hB hn hres
  go_enter Try.func31, Try.ntmps31
  go_wp2_with (first
    | (refine append_abs (by rfl) (.tmp 22) (.tmp 23) 39 (by rfl) S 23 .u64 8 Try.underlying39 u64Elem A1 n c1 l (by rfl) (ho1.keep ((Below.refl _ _).alloc (Nat.le_refl _) _)) (w1.heap.size + 1) (some ⟨w1.heap.size, 0, none⟩) 1 1 [0] (by rfl) (Rd.of_has (Has.new w1 23 (vals .u64 [0])) (by omega) (by rfl) (by simp)) (n + 1) (by rfl) (l ++ [0]) (by rfl) (by have := HN.out; omega) (by have := HN.out; unfold maxLen; omega) (by have := HSS.out _ hb1; simp; omega) ?_
       intro A2 c2 w2 ho2 hbx
       have hb2 := (hb1.alloc (HSS.out _ hb1) (.cells (vals .u64 [0]) 23)).trans hbx
       clear hbx hb1 ho1)
    | (refine append_abs (by rfl) (.tmp 20) (.tmp 21) 39 (by rfl) S 23 .u64 8 Try.underlying39 u64Elem (some ⟨S, 0, none⟩) 0 0 [] (by rfl) (Own.of_has (Has.new' w hS.symm 23 (vals .u64 [])) (Nat.le_refl _) (Nat.zero_le _)) (S + 1) A n c l (by rfl) (((HRD.out _ hb0).keep ((Below.refl w.heap.size w).alloc (Nat.le_refl _) _) (Nat.le_refl _)).more (by omega)) n (Nat.zero_add n) l (by rfl) (by have := HN.out; omega) (by have := HN.out; unfold maxLen; omega) (by simp; omega) ?_
       intro A1 c1 w1 ho1 hbx
       have hb1 := (hb0.alloc (by omega) (.cells (vals .u64 []) 23)).trans hbx
       clear hbx))
  go_loopg [6, 7] (64 * n) (fun (gk : Nat) vl vo wr => ∃ (A6 : Option Addr) (c6 : Nat) (L : List Int) (A7 : Option Addr) (m c7 : Nat) (D : List Int), vl = .slice A6 (n + 1) c6 ∧ vo = .slice A7 m c7 ∧ Own wr S 23 .u64 A6 (n + 1) c6 L ∧ Own wr S 3 .i64 A7 m c7 D ∧ Keep (Words L ∧ L.length = n + 1 ∧ num L < wp n ∧ num L < 2 ^ gk ∧ m + gk ≤ 64 * n ∧ D ++ digs 4 gk (num L) = res) ∧ Below S w wr)
  case atStart => exact ⟨A2, c2, l ++ [0], none, 0, 0, [], rfl, rfl, ho2, own_none _ _ _ _, H0, hb2⟩
  case round =>
    clear ho2 hb2
    obtain ⟨A6, c6, L, A7, m, c7, D, rfl, rfl, hoL, hoD, HI, hb⟩ := hrel
    have hv0 := (num_bounds HI.out.1).1
    have hrL := hoL.rd
    by_cases hz : num L = 0
    · have CM : Keep (∀ y : World, Rd y y.heap.size A6 (n + 1) .u64 L → Calls Try.prog 45 #[.slice A6 (n + 1) c6, .slice none 0 0] y fun e y' => e = .returned (.int .i64 0) ∧ y = y') := ⟨fun y h => by
        have h1 := refCmp_c A6 (n + 1) c6 L none 0 0 [] y.heap.size y h HI.out.1 ⟨rfl, fun h => absurd h (by omega)⟩ (words_of _ (by intro i hi; simp at hi)) (by have := HN.out; omega) (by omega)
        have e : cmpL L [] = 0 := by rw [cmpL, num_nil, if_neg (by omega), if_pos hz]
        rw [e] at h1
        exact h1⟩
      have FIN : Keep (D = res) := ⟨by have := HI.out.2.2.2.2.2; rw [hz, digs_zero, List.append_nil] at this; exact this⟩
      clear hz hv0
      go_wp2_with (go_at_call 45; refine (CM.out _ hrL).mono ?_; rintro e w' ⟨rfl, rfl⟩)
      go_ret2
      exact ⟨A7, m, c7, rfl, by rw [← FIN.out]; exact hoD, hb⟩
    · obtain ⟨g, rfl⟩ : ∃ g, gk = g + 1 := ⟨gk - 1, by
        rcases gk with _ | g
        · have := HI.out.2.2.2.1; simp at this; omega
        · omega⟩
      have CM : Keep (∀ y : World, Rd y y.heap.size A6 (n + 1) .u64 L → Calls Try.prog 45 #[.slice A6 (n + 1) c6, .slice none 0 0] y fun e y' => e = .returned (.int .i64 1) ∧ y = y') := ⟨fun y h => by
        have h1 := refCmp_c A6 (n + 1) c6 L none 0 0 [] y.heap.size y h HI.out.1 ⟨rfl, fun h => absurd h (by omega)⟩ (words_of _ (by intro i hi; simp at hi)) (by have := HN.out; omega) (by omega)
        have e : cmpL L [] = 1 := by rw [cmpL, num_nil, if_neg (by omega), if_neg hz]
        rw [e] at h1
        exact h1⟩
      obtain ⟨gl, rfl, hgl0, hgl1, hgn, hcl, hfl⟩ := hoL.at_ (by omega)
      obtain ⟨x0, hx0⟩ : ∃ x, nth L 0 = x := ⟨_, rfl⟩
      have hc0 := hcl 0 (by omega)
      rw [hx0] at hc0
      obtain ⟨d0, hd0⟩ : ∃ d, x0 % 8 = d := ⟨_, rfl⟩
      have bd0 : 0 ≤ d0 ∧ d0 < 8 := by omega
      have hmod : num L % (2 * 4) = d0 := by rw [← hd0, ← hx0]; exact num_mod_head (B := 8) (C := 2305843009213693952) (by decide)
      have hdig : dg 4 (num L) = if 4 < d0 then d0 - 8 else d0 := by unfold dg; rw [hmod]; rfl
      have hdb := dg_bounds (H := 4) (v := num L) (by decide)
      have hnx := nx_eq (H := 4) (v := num L) (by decide)
      have hnl := nx_less (H := 4) (v := num L) (by decide) hv0 HI.out.2.2.2.1
      have hn0 := nx_nonneg (H := 4) (v := num L) (by decide) hv0
      have hds : D ++ dg 4 (num L) :: digs 4 g (nx 4 (num L)) = res := by rw [← digs_step hz]; exact HI.out.2.2.2.2.2
      have NX : Keep (nx 4 (num L) < 2 ^ g ∧ m + 1 + g ≤ 64 * n ∧ 0 ≤ nx 4 (num L) ∧ nx 4 (num L) < wp n) := ⟨hnl, by have := HI.out.2.2.2.2.1; omega, hn0, by have := HI.out.2.2.1; omega⟩
      by_cases hbig : 4 < d0
      · have htm : x0.tmod 8 = d0 := by rw [Int.tmod_eq_emod_of_nonneg (by rw [← hx0]; exact (HI.out.1 0).1)]; exact hd0
        have hwd : wrap64 d0 = d0 := by unfold wrap64; omega
        obtain ⟨dgt, hdg⟩ : ∃ d, d0 - 8 = d := ⟨_, rfl⟩
        obtain ⟨dd, hdd⟩ : ∃ d, -dgt = d := ⟨_, rfl⟩
        rw [if_pos hbig, hdg] at hdig
        have bdd : 0 ≤ dd ∧ dd ≤ 256 := by omega
        have e1 : wrap64 (d0 - 8) = dgt := by rw [hdg]; unfold wrap64; omega
        have e2 : wrap64 (-dgt) = dd := by rw [hdd]; unfold wrap64; omega
        have e3 : IntKind.u64.wrap dd = dd := by rw [IntKind.wrap_u64]; omega
        obtain ⟨M, hM⟩ : ∃ o, addL L [dd] = o := ⟨_, rfl⟩
        have n1 : num [dd] = dd := by simp [num, low, nth, wp]
        have hnM : num M = 2 * 4 * nx 4 (num L) := by
          have hr := wp_room n
          have hlt := HI.out.2.2.1
          rw [← hM, addL, HI.out.2.1, show max (n + 1) [dd].length = n + 1 from Nat.max_eq_left (by simp), n1, num_wd_of (by omega) (by omega)]
          omega
        have HM : Keep (Words M ∧ M.length = n + 1 ∧ num M / 8 = nx 4 (num L)) := ⟨by rw [← hM]; exact wd_words _ _, by rw [← hM, addL, wd_len, HI.out.2.1]; exact Nat.max_eq_left (by simp), by rw [hnM]; exact Int.mul_ediv_cancel_left _ (by decide)⟩
        have HDS : Keep (D ++ dgt :: digs 4 g (nx 4 (num L)) = res) := ⟨by rw [← hdig]; exact hds⟩
        have PA : Keep (∀ (y : World) (g' : Nat), Rd y y.heap.size (some ⟨gl, 0, none⟩) (n + 1) .u64 L → Has y g' 23 (vals .u64 [dd]) → Calls Try.prog 51 #[.slice (some ⟨gl, 0, none⟩) (n + 1) c6, .slice (some ⟨g', 0, none⟩) 1 1] y fun e y' => ∃ A9 c9, e = .returned (.tuple #[.slice A9 (n + 1) c9, .int .u64 (addC L [dd])]) ∧ Own y' y.heap.size 23 .u64 A9 (n + 1) c9 M ∧ Below y.heap.size y y') := ⟨fun y g' h h' => by
          have h1 := refAdd_c (some ⟨gl, 0, none⟩) (n + 1) c6 L (some ⟨g', 0, none⟩) 1 1 [dd] y.heap.size y h HI.out.1 (Rd.of_has h' h'.lt (by rfl) (by simp)) (words_one (by omega) (by omega)) (Nat.le_refl _) (by have := HN.out; omega) (by omega)
          rw [hM, show max (n + 1) 1 = n + 1 from Nat.max_eq_left (by omega)] at h1
          exact h1⟩
        obtain ⟨cc, hcc⟩ : ∃ o, addC L [dd] = o := ⟨_, rfl⟩
        rw [hcc] at PA
        clear hnx hnl hn0 hdb hcl hmod hds hdig hv0 hz hd0 hx0 hM n1 hnM hcc
        go_wp2_with (first
          | (refine append_abs2 (by rfl) (.tmp 66) (.tmp 68) 40 (by rfl) S 3 .i64 8 Try.underlying40 i64Elem A7 m c7 D (by rfl) (hoD20.keep ((Below.refl _ _).alloc (Nat.le_refl _) _)) (w20.heap.size + 1) (some ⟨w20.heap.size, 0, none⟩) 1 1 [dgt] (by rfl) (Rd.of_has (Has.new w20 3 (vals .i64 [dgt])) (by omega) (by rfl) (by simp)) (m + 1) (by rfl) (D ++ [dgt]) (by rfl) (by have := NX.out.2.1; have := HN.out; omega) (by have := NX.out.2.1; have := HN.out; unfold maxLen; omega) (by have := HSS.out _ hb20; simp; omega) ?_
             intro A8 c8 w21 hoE21 hbx hsame
             have hal := (Below.refl w20.heap.size w20).alloc (Nat.le_refl _) (.cells (vals .i64 [dgt]) 3)
             have hoM21 := own_base (own_far (hoM20.keep hal) (fun g' hA => by
               cases hA
               exact hsame _ (by simp; omega) (fun g2 hA2 => by subst hA2; exact own_ne hoM20 hoD20 tne))) (HSS.out _ hb)
             have hb21 := (hb20.alloc (HSS.out _ hb20) (.cells (vals .i64 [dgt]) 3)).trans hbx
             clear hbx hsame hal hoM20 hoD20 hb20)
          | (go_at_call 51
             have hal := (Below.refl wr.heap.size wr).alloc (Nat.le_refl _) (.cells (vals .u64 [dd]) 23)
             refine (PA.out _ wr.heap.size (rd_here hrL hal) (Has.new _ _ _)).mono ?_
             rintro e w20 ⟨A9, c9, rfl, hoM20', hq⟩
             have hbe := hal.trans (hq.mono hal.size)
             have hoM20 := own_base (b' := wr.heap.size) hoM20' hal.size
             obtain ⟨gm, rfl, hgm0, hgm1, hgm2, -, -⟩ := hoM20.at_ (by omega)
             have hoD20 := hoD.keep hbe
             have hb20 := hb.trans (hbe.mono (HSS.out _ hb))
             clear hal hq hbe hoM20' hoL hoD hrL)
          | (go_at_call 45; refine (CM.out _ hrL).mono ?_; rintro e w' ⟨rfl, rfl⟩))
        go_loopg [13] (n + 1) (fun (gk : Nat) vi wr => ∃ k : Nat, k + gk = n + 1 ∧ vi = .int .i64 k ∧ Own wr S 23 .u64 (some ⟨gm, 0, none⟩) (n + 1) c9 (fill (n + 1) (shw M 8 2305843009213693952) (nth M) k) ∧ Own wr S 3 .i64 A8 (m + 1) c8 (D ++ [dgt]) ∧ Below S w wr)
        case atStart => exact ⟨0, by omega, rfl, by rw [fill_zero _ _ _ HM.out.2.1]; exact hoM21, hoE21, hb21⟩
        case round =>
          clear hoM21 hoE21 hb21
          obtain ⟨k, hk, rfl, hoP, hoE, hb5⟩ := hrel
          by_cases hlt : k < n + 1
          · obtain ⟨j, rfl⟩ : ∃ j, gk = j + 1 := ⟨gk - 1, by omega⟩
            obtain ⟨x, hx⟩ : ∃ x, nth M k = x := ⟨_, rfl⟩
            obtain ⟨y, hy⟩ : ∃ y, nth M (k + 1) = y := ⟨_, rfl⟩
            have bx := HM.out.1 k
            have by' := HM.out.1 (k + 1)
            rw [hx] at bx
            rw [hy] at by'
            have hcx : nth (fill (n + 1) (shw M 8 2305843009213693952) (nth M) k) k = x := by rw [fill_nth _ _ _ hlt, if_neg (by omega)]; exact hx
            have hcy : nth (fill (n + 1) (shw M 8 2305843009213693952) (nth M) k) (k + 1) = y := by
              rcases Nat.lt_or_ge (k + 1) (n + 1) with h | h
              · rw [fill_nth _ _ _ h, if_neg (by omega)]; exact hy
              · rw [nth_ge (by rw [fill_len]; exact h), ← hy, nth_ge (by rw [HM.out.2.1]; exact h)]
            obtain ⟨z, hz⟩ : ∃ z, shw M 8 2305843009213693952 k = z := ⟨_, rfl⟩
            have hzz : x / 8 + y % 8 * 2305843009213693952 = z := by rw [← hz, ← hx, ← hy]; rfl
            have bz := shw_word HM.out.1 (B := 8) (C := 2305843009213693952) (by decide) (by decide) (by decide) k
            rw [hz] at bz
            obtain ⟨P, hP⟩ : ∃ P, fill (n + 1) (shw M 8 2305843009213693952) (nth M) k = P := ⟨_, rfl⟩
            rw [hP] at hoP hcx hcy
            have HP : Keep (P.set k z = fill (n + 1) (shw M 8 2305843009213693952) (nth M) (k + 1)) := ⟨by rw [← hP]; exact fill_set _ _ hlt hz.symm⟩
            obtain ⟨hgs, hcP, -⟩ := own_cells hoP (Nat.succ_pos n)
            have hck := hcP k hlt
            rw [hcx] at hck
            have AT : Keep (∀ y' : World, Rd y' y'.heap.size (some ⟨gm, 0, none⟩) (n + 1) .u64 P → Calls Try.prog 52 #[.slice (some ⟨gm, 0, none⟩) (n + 1) c9, .int .i64 ((k : Int) + 1)] y' fun e y2 => e = .returned (.int .u64 y) ∧ Below y'.heap.size y' y2) := ⟨fun y' h => by
              have h1 := at_c (some ⟨gm, 0, none⟩) (n + 1) c9 P y'.heap.size (k + 1) y' h
              rw [hcy] at h1
              exact h1.mono fun e x' ⟨he, hx⟩ => ⟨he, hx ▸ Below.refl _ _⟩⟩
            have hrP := hoP.rd
            have hk1 : wrap64 ((k : Int) + 1) = (k : Int) + 1 := by have := HN.out; unfold wrap64; omega
            have HK2 : Keep (wrap64 ((k : Int) + 1) = ((k + 1 : Nat) : Int)) := ⟨hk1⟩
            obtain ⟨yc, hyc⟩ : ∃ v, y % 8 * 2305843009213693952 = v := ⟨_, rfl⟩
            have hsh : IntKind.u64.wrap (y * 2305843009213693952) = yc := by rw [IntKind.wrap_u64]; omega
            have hsm : IntKind.u64.wrap (x / 8 + yc) = z := by rw [IntKind.wrap_u64]; omega
            clear hzz hyc bx by' bz
            clear hz hx hy hP hcx hcy hcP
            go_wp2
            refine wp_fam 19 (by kernel_rfl) (by kernel_rfl) (fun I hI' fw hf hback => ?_)
            simp only [List.take_succ_cons, List.take_zero, List.drop_succ_cons, List.drop_zero]
            have c0 : ∀ j, (fw j).cell? ⟨gm, k, none⟩ = some (.int .u64 x) := fun j => ((hf j).cell (p := ⟨gm, k, none⟩) hgs).trans hck
            repeat (first | go_big_quiet_step (first | fail | (go_at_call 52; with_reducible exact calls_fam hf hback (AT.out _ (rd_here hrP (hf _))))))
            refine wpQuiet_nil ?_
            intro w6 hb6
            clear hsh hsm hk1
            have hoP6 := hoP.keep hb6
            have hoE6 := hoE.keep hb6
            have hbb6 := hb5.trans (hb6.mono (HSS.out _ hb5))
            clear c0 hf hback hb6 hck hrP hoP hoE hb5 AT
            obtain ⟨hgs6, hcP6, hfP6⟩ := own_cells hoP6 (Nat.succ_pos n)
            have co := hcP6 k hlt
            have zo := hfP6 k
            have hoP7 := hoP6.set_ hlt z
            rw [HP.out] at hoP7
            have hoE7 := own_far (w' := w6.setCell ⟨gm, k, none⟩ (.int .u64 z)) hoE6 (fun g' hA => heap_setCell_other w6 _ _ _ (by subst hA; exact (own_ne hoP6 hoE6 tne).symm))
            have hb7 := hbb6.setCell (p := ⟨gm, k, none⟩) (Nat.le_trans (HSS.out _ hb) hgm0) (.int .u64 z)
            clear hcP6 hfP6 hoP6 hoE6 hbb6
            go_wp2
            go_roundg j
            case measure => exact Nat.lt_succ_self _
            case rel => exact ⟨k + 1, by rw [Nat.add_assoc, Nat.add_comm 1 j]; exact hk, by first | rfl | rw [HK2.out], hoP7, hoE7, hb7⟩
          · obtain rfl : gk = 0 := by omega
            obtain rfl : k = n + 1 := by omega
            have eP : fill (n + 1) (shw M 8 2305843009213693952) (nth M) (n + 1) = tab (n + 1) (shw M 8 2305843009213693952) := fill_all_ _ _ _
            rw [eP] at hoP
            have hnum := shift_num HM.out.2.1 (B := 8) (C := 2305843009213693952) (by decide) (by decide)
            rw [HM.out.2.2] at hnum
            have HR : Keep (Words (tab (n + 1) (shw M 8 2305843009213693952)) ∧ (tab (n + 1) (shw M 8 2305843009213693952)).length = n + 1 ∧ num (tab (n + 1) (shw M 8 2305843009213693952)) < wp n ∧ num (tab (n + 1) (shw M 8 2305843009213693952)) < 2 ^ g ∧ m + 1 + g ≤ 64 * n ∧ (D ++ [dgt]) ++ digs 4 g (num (tab (n + 1) (shw M 8 2305843009213693952))) = res) := ⟨words_of _ (fun i hi => by
              rw [tab_len] at hi
              rw [tab_nth _ hi]
              exact shw_word HM.out.1 (by decide) (by decide) (by decide) i), tab_len _ _, by rw [hnum]; exact NX.out.2.2.2, by rw [hnum]; exact NX.out.1, NX.out.2.1, by rw [hnum, List.append_assoc]; exact HDS.out⟩
            clear eP hnum
            go_wp2
            go_roundg g
            case measure => omega
            case rel => exact ⟨_, _, _, _, _, _, _, rfl, rfl, hoP, hoE, HR, hb5⟩
      · have htm : x0.tmod 8 = d0 := by rw [Int.tmod_eq_emod_of_nonneg (by rw [← hx0]; exact (HI.out.1 0).1)]; exact hd0
        have hwd : wrap64 d0 = d0 := by unfold wrap64; omega
        obtain ⟨dgt, hdg⟩ : ∃ d, d0 = d := ⟨_, rfl⟩
        obtain ⟨dd, hdd⟩ : ∃ d, dgt = d := ⟨_, rfl⟩
        rw [if_neg hbig, hdg] at hdig
        have bdd : 0 ≤ dd ∧ dd ≤ 256 := by omega
        have e4 : dd = d0 := by omega
        have e3 : IntKind.u64.wrap d0 = d0 := by rw [IntKind.wrap_u64]; omega
        obtain ⟨M, hM⟩ : ∃ o, subL L [dd] = o := ⟨_, rfl⟩
        have n1 : num [dd] = dd := by simp [num, low, nth, wp]
        have hnM : num M = 2 * 4 * nx 4 (num L) := by
          have hr := wp_room n
          have hlt := HI.out.2.2.1
          rw [← hM, subL, HI.out.2.1, show max (n + 1) [dd].length = n + 1 from Nat.max_eq_left (by simp), n1, num_wd_of (by omega) (by omega)]
          omega
        have HM : Keep (Words M ∧ M.length = n + 1 ∧ num M / 8 = nx 4 (num L)) := ⟨by rw [← hM]; exact wd_words _ _, by rw [← hM, subL, wd_len, HI.out.2.1]; exact Nat.max_eq_left (by simp), by rw [hnM]; exact Int.mul_ediv_cancel_left _ (by decide)⟩
        have HDS : Keep (D ++ dgt :: digs 4 g (nx 4 (num L)) = res) := ⟨by rw [← hdig]; exact hds⟩
        have PA : Keep (∀ (y : World) (g' : Nat), Rd y y.heap.size (some ⟨gl, 0, none⟩) (n + 1) .u64 L → Has y g' 23 (vals .u64 [dd]) → Calls Try.prog 40 #[.slice (some ⟨gl, 0, none⟩) (n + 1) c6, .slice (some ⟨g', 0, none⟩) 1 1] y fun e y' => ∃ A9 c9, e = .returned (.tuple #[.slice A9 (n + 1) c9, .int .u64 (subC L [dd])]) ∧ Own y' y.heap.size 23 .u64 A9 (n + 1) c9 M ∧ Below y.heap.size y y') := ⟨fun y g' h h' => by
          have h1 := refSub_c (some ⟨gl, 0, none⟩) (n + 1) c6 L (some ⟨g', 0, none⟩) 1 1 [dd] y.heap.size y h HI.out.1 (Rd.of_has h' h'.lt (by rfl) (by simp)) (words_one (by omega) (by omega)) (Nat.le_refl _) (by have := HN.out; omega) (by omega)
          rw [hM, show max (n + 1) 1 = n + 1 from Nat.max_eq_left (by omega)] at h1
          exact h1⟩
        obtain ⟨cc, hcc⟩ : ∃ o, subC L [dd] = o := ⟨_, rfl⟩
        rw [hcc] at PA
        clear hnx hnl hn0 hdb hcl hmod hds hdig hv0 hz hd0 hx0 hM n1 hnM hcc
        rw [e4] at PA
        clear e4 hdd bdd
        have HDG : dgt = d0 := hdg.symm
        subst HDG
        go_wp2_with (first
          | (refine append_abs2 (by rfl) (.tmp 66) (.tmp 68) 40 (by rfl) S 3 .i64 8 Try.underlying40 i64Elem A7 m c7 D (by rfl) (hoD20.keep ((Below.refl _ _).alloc (Nat.le_refl _) _)) (w20.heap.size + 1) (some ⟨w20.heap.size, 0, none⟩) 1 1 [dgt] (by rfl) (Rd.of_has (Has.new w20 3 (vals .i64 [dgt])) (by omega) (by rfl) (by simp)) (m + 1) (by rfl) (D ++ [dgt]) (by rfl) (by have := NX.out.2.1; have := HN.out; omega) (by have := NX.out.2.1; have := HN.out; unfold maxLen; omega) (by have := HSS.out _ hb20; simp; omega) ?_
             intro A8 c8 w21 hoE21 hbx hsame
             have hal := (Below.refl w20.heap.size w20).alloc (Nat.le_refl _) (.cells (vals .i64 [dgt]) 3)
             have hoM21 := own_base (own_far (hoM20.keep hal) (fun g' hA => by
               cases hA
               exact hsame _ (by simp; omega) (fun g2 hA2 => by subst hA2; exact own_ne hoM20 hoD20 tne))) (HSS.out _ hb)
             have hb21 := (hb20.alloc (HSS.out _ hb20) (.cells (vals .i64 [dgt]) 3)).trans hbx
             clear hbx hsame hal hoM20 hoD20 hb20)
          | (go_at_call 40
             have hal := (Below.refl wr.heap.size wr).alloc (Nat.le_refl _) (.cells (vals .u64 [dgt]) 23)
             refine (PA.out _ wr.heap.size (rd_here hrL hal) (Has.new _ _ _)).mono ?_
             rintro e w20 ⟨A9, c9, rfl, hoM20', hq⟩
             have hbe := hal.trans (hq.mono hal.size)
             have hoM20 := own_base (b' := wr.heap.size) hoM20' hal.size
             obtain ⟨gm, rfl, hgm0, hgm1, hgm2, -, -⟩ := hoM20.at_ (by omega)
             have hoD20 := hoD.keep hbe
             have hb20 := hb.trans (hbe.mono (HSS.out _ hb))
             clear hal hq hbe hoM20' hoL hoD hrL)
          | (go_at_call 45; refine (CM.out _ hrL).mono ?_; rintro e w' ⟨rfl, rfl⟩))
        go_loopg [13] (n + 1) (fun (gk : Nat) vi wr => ∃ k : Nat, k + gk = n + 1 ∧ vi = .int .i64 k ∧ Own wr S 23 .u64 (some ⟨gm, 0, none⟩) (n + 1) c9 (fill (n + 1) (shw M 8 2305843009213693952) (nth M) k) ∧ Own wr S 3 .i64 A8 (m + 1) c8 (D ++ [dgt]) ∧ Below S w wr)
        case atStart => exact ⟨0, by omega, rfl, by rw [fill_zero _ _ _ HM.out.2.1]; exact hoM21, hoE21, hb21⟩
        case round =>
          clear hoM21 hoE21 hb21
          obtain ⟨k, hk, rfl, hoP, hoE, hb5⟩ := hrel
          by_cases hlt : k < n + 1
          · obtain ⟨j, rfl⟩ : ∃ j, gk = j + 1 := ⟨gk - 1, by omega⟩
            obtain ⟨x, hx⟩ : ∃ x, nth M k = x := ⟨_, rfl⟩
            obtain ⟨y, hy⟩ : ∃ y, nth M (k + 1) = y := ⟨_, rfl⟩
            have bx := HM.out.1 k
            have by' := HM.out.1 (k + 1)
            rw [hx] at bx
            rw [hy] at by'
            have hcx : nth (fill (n + 1) (shw M 8 2305843009213693952) (nth M) k) k = x := by rw [fill_nth _ _ _ hlt, if_neg (by omega)]; exact hx
            have hcy : nth (fill (n + 1) (shw M 8 2305843009213693952) (nth M) k) (k + 1) = y := by
              rcases Nat.lt_or_ge (k + 1) (n + 1) with h | h
              · rw [fill_nth _ _ _ h, if_neg (by omega)]; exact hy
              · rw [nth_ge (by rw [fill_len]; exact h), ← hy, nth_ge (by rw [HM.out.2.1]; exact h)]
            obtain ⟨z, hz⟩ : ∃ z, shw M 8 2305843009213693952 k = z := ⟨_, rfl⟩
            have hzz : x / 8 + y % 8 * 2305843009213693952 = z := by rw [← hz, ← hx, ← hy]; rfl
            have bz := shw_word HM.out.1 (B := 8) (C := 2305843009213693952) (by decide) (by decide) (by decide) k
            rw [hz] at bz
            obtain ⟨P, hP⟩ : ∃ P, fill (n + 1) (shw M 8 2305843009213693952) (nth M) k = P := ⟨_, rfl⟩
            rw [hP] at hoP hcx hcy
            have HP : Keep (P.set k z = fill (n + 1) (shw M 8 2305843009213693952) (nth M) (k + 1)) := ⟨by rw [← hP]; exact fill_set _ _ hlt hz.symm⟩
            obtain ⟨hgs, hcP, -⟩ := own_cells hoP (Nat.succ_pos n)
            have hck := hcP k hlt
            rw [hcx] at hck
            have AT : Keep (∀ y' : World, Rd y' y'.heap.size (some ⟨gm, 0, none⟩) (n + 1) .u64 P → Calls Try.prog 52 #[.slice (some ⟨gm, 0, none⟩) (n + 1) c9, .int .i64 ((k : Int) + 1)] y' fun e y2 => e = .returned (.int .u64 y) ∧ Below y'.heap.size y' y2) := ⟨fun y' h => by
              have h1 := at_c (some ⟨gm, 0, none⟩) (n + 1) c9 P y'.heap.size (k + 1) y' h
              rw [hcy] at h1
              exact h1.mono fun e x' ⟨he, hx⟩ => ⟨he, hx ▸ Below.refl _ _⟩⟩
            have hrP := hoP.rd
            have hk1 : wrap64 ((k : Int) + 1) = (k : Int) + 1 := by have := HN.out; unfold wrap64; omega
            have HK2 : Keep (wrap64 ((k : Int) + 1) = ((k + 1 : Nat) : Int)) := ⟨hk1⟩
            obtain ⟨yc, hyc⟩ : ∃ v, y % 8 * 2305843009213693952 = v := ⟨_, rfl⟩
            have hsh : IntKind.u64.wrap (y * 2305843009213693952) = yc := by rw [IntKind.wrap_u64]; omega
            have hsm : IntKind.u64.wrap (x / 8 + yc) = z := by rw [IntKind.wrap_u64]; omega
            clear hzz hyc bx by' bz
            clear hz hx hy hP hcx hcy hcP
            go_wp2
            refine wp_fam 19 (by kernel_rfl) (by kernel_rfl) (fun I hI' fw hf hback => ?_)
            simp only [List.take_succ_cons, List.take_zero, List.drop_succ_cons, List.drop_zero]
            have c0 : ∀ j, (fw j).cell? ⟨gm, k, none⟩ = some (.int .u64 x) := fun j => ((hf j).cell (p := ⟨gm, k, none⟩) hgs).trans hck
            repeat (first | go_big_quiet_step (first | fail | (go_at_call 52; with_reducible exact calls_fam hf hback (AT.out _ (rd_here hrP (hf _))))))
            refine wpQuiet_nil ?_
            intro w6 hb6
            clear hsh hsm hk1
            have hoP6 := hoP.keep hb6
            have hoE6 := hoE.keep hb6
            have hbb6 := hb5.trans (hb6.mono (HSS.out _ hb5))
            clear c0 hf hback hb6 hck hrP hoP hoE hb5 AT
            obtain ⟨hgs6, hcP6, hfP6⟩ := own_cells hoP6 (Nat.succ_pos n)
            have co := hcP6 k hlt
            have zo := hfP6 k
            have hoP7 := hoP6.set_ hlt z
            rw [HP.out] at hoP7
            have hoE7 := own_far (w' := w6.setCell ⟨gm, k, none⟩ (.int .u64 z)) hoE6 (fun g' hA => heap_setCell_other w6 _ _ _ (by subst hA; exact (own_ne hoP6 hoE6 tne).symm))
            have hb7 := hbb6.setCell (p := ⟨gm, k, none⟩) (Nat.le_trans (HSS.out _ hb) hgm0) (.int .u64 z)
            clear hcP6 hfP6 hoP6 hoE6 hbb6
            go_wp2
            go_roundg j
            case measure => exact Nat.lt_succ_self _
            case rel => exact ⟨k + 1, by rw [Nat.add_assoc, Nat.add_comm 1 j]; exact hk, by first | rfl | rw [HK2.out], hoP7, hoE7, hb7⟩
          · obtain rfl : gk = 0 := by omega
            obtain rfl : k = n + 1 := by omega
            have eP : fill (n + 1) (shw M 8 2305843009213693952) (nth M) (n + 1) = tab (n + 1) (shw M 8 2305843009213693952) := fill_all_ _ _ _
            rw [eP] at hoP
            have hnum := shift_num HM.out.2.1 (B := 8) (C := 2305843009213693952) (by decide) (by decide)
            rw [HM.out.2.2] at hnum
            have HR : Keep (Words (tab (n + 1) (shw M 8 2305843009213693952)) ∧ (tab (n + 1) (shw M 8 2305843009213693952)).length = n + 1 ∧ num (tab (n + 1) (shw M 8 2305843009213693952)) < wp n ∧ num (tab (n + 1) (shw M 8 2305843009213693952)) < 2 ^ g ∧ m + 1 + g ≤ 64 * n ∧ (D ++ [dgt]) ++ digs 4 g (num (tab (n + 1) (shw M 8 2305843009213693952))) = res) := ⟨words_of _ (fun i hi => by
              rw [tab_len] at hi
              rw [tab_nth _ hi]
              exact shw_word HM.out.1 (by decide) (by decide) (by decide) i), tab_len _ _, by rw [hnum]; exact NX.out.2.2.2, by rw [hnum]; exact NX.out.1, NX.out.2.1, by rw [hnum, List.append_assoc]; exact HDS.out⟩
            clear eP hnum
            go_wp2
            go_roundg g
            case measure => omega
            case rel => exact ⟨_, _, _, _, _, _, _, rfl, rfl, hoP, hoE, HR, hb5⟩

set_option maxRecDepth 100000 in
set_option maxHeartbeats 4000000 in
theorem refWindows_4 (A : Option Addr) (n c : Nat) (l : List Int) (B : Nat) (w : World) (hr : Rd w B A n .u64 l) (hwl : Words l) (hB : B ≤ w.heap.size) (hn : n ≤ 10000) : Calls Try.prog 31 #[.slice A n c, .int .i64 4] w fun e w' => ∃ A' m c', e = .returned (.tuple #[.slice A' m c', .int .i64 0]) ∧ Own w' w.heap.size 3 .i64 A' m c' (digs 8 (64 * n) (num l)) ∧ Below w.heap.size w w' := by
  obtain ⟨S, hS⟩ : ∃ S, w.heap.size = S := ⟨_, rfl⟩
  have hb0 : Below S w w := Below.refl _ _
  have HSS : Keep (∀ x : World, Below S w x → S ≤ x.heap.size) := ⟨fun x hb => by have := hb.size; omega⟩
  have HRD : Keep (∀ x : World, Below S w x → Rd x x.heap.size A n .u64 l) := ⟨fun x hb => (hr.keep hb (by omega)).more (Nat.le_trans hB (Nat.le_trans (by omega) (HSS.out _ hb)))⟩
  have LN : Keep (l.length = n) := ⟨hr.len⟩
  have HN : Keep (n ≤ 10000) := ⟨hn⟩
  obtain ⟨res, hres⟩ : ∃ o, digs 8 (64 * n) (num l) = o := ⟨_, rfl⟩
  have H0 : Keep (Words (l ++ [0]) ∧ (l ++ [0]).length = n + 1 ∧ num (l ++ [0]) < wp n ∧ num (l ++ [0]) < 2 ^ (64 * n) ∧ 0 + 64 * n ≤ 64 * n ∧ [] ++ digs 8 (64 * n) (num (l ++ [0])) = res) := ⟨by
    have e : num (l ++ [0]) = num l := by rw [num_append]; simp [num, low, nth]
    have hb := num_bounds hwl
    rw [LN.out] at hb
    refine ⟨words_append hwl (words_of _ (by decide)), by rw [List.length_append, LN.out]; rfl, by rw [e]; exact hb.2, by rw [e, ← tp, tp_wp]; exact hb.2, by omega, by rw [e]; exact hres⟩⟩
  rw [hres, hS]
  clear hr hwl hB hn hres
  go_enter Try.func31, Try.ntmps31
  go_wp2_with (first
    | (refine append_abs (by rfl) (.tmp 22) (.tmp 23) 39 (by rfl) S 23 .u64 8 Try.underlying39 u64Elem A1 n c1 l (by rfl) (ho1.keep ((Below.refl _ _).alloc (Nat.le_refl _) _)) (w1.heap.size + 1) (some ⟨w1.heap.size, 0, none⟩) 1 1 [0] (by rfl) (Rd.of_has (Has.new w1 23 (vals .u64 [0])) (by omega) (by rfl) (by simp)) (n + 1) (by rfl) (l ++ [0]) (by rfl) (by have := HN.out; omega) (by have := HN.out; unfold maxLen; omega) (by have := HSS.out _ hb1; simp; omega) ?_
       intro A2 c2 w2 ho2 hbx
       have hb2 := (hb1.alloc (HSS.out _ hb1) (.cells (vals .u64 [0]) 23)).trans hbx
       clear hbx hb1 ho1)
    | (refine append_abs (by rfl) (.tmp 20) (.tmp 21) 39 (by rfl) S 23 .u64 8 Try.underlying39 u64Elem (some ⟨S, 0, none⟩) 0 0 [] (by rfl) (Own.of_has (Has.new' w hS.symm 23 (vals .u64 [])) (Nat.le_refl _) (Nat.zero_le _)) (S + 1) A n c l (by rfl) (((HRD.out _ hb0).keep ((Below.refl w.heap.size w).alloc (Nat.le_refl _) _) (Nat.le_refl _)).more (by omega)) n (Nat.zero_add n) l (by rfl) (by have := HN.out; omega) (by have := HN.out; unfold maxLen; omega) (by simp; omega) ?_
       intro A1 c1 w1 ho1 hbx
       have hb1 := (hb0.alloc (by omega) (.cells (vals .u64 []) 23)).trans hbx
       clear hbx))
  go_loopg [6, 7] (64 * n) (fun (gk : Nat) vl vo wr => ∃ (A6 : Option Addr) (c6 : Nat) (L : List Int) (A7 : Option Addr) (m c7 : Nat) (D : List Int), vl = .slice A6 (n + 1) c6 ∧ vo = .slice A7 m c7 ∧ Own wr S 23 .u64 A6 (n + 1) c6 L ∧ Own wr S 3 .i64 A7 m c7 D ∧ Keep (Words L ∧ L.length = n + 1 ∧ num L < wp n ∧ num L < 2 ^ gk ∧ m + gk ≤ 64 * n ∧ D ++ digs 8 gk (num L) = res) ∧ Below S w wr)
  case atStart => exact ⟨A2, c2, l ++ [0], none, 0, 0, [], rfl, rfl, ho2, own_none _ _ _ _, H0, hb2⟩
  case round =>
    clear ho2 hb2
    obtain ⟨A6, c6, L, A7, m, c7, D, rfl, rfl, hoL, hoD, HI, hb⟩ := hrel
    have hv0 := (num_bounds HI.out.1).1
    have hrL := hoL.rd
    by_cases hz : num L = 0
    · have CM : Keep (∀ y : World, Rd y y.heap.size A6 (n + 1) .u64 L → Calls Try.prog 45 #[.slice A6 (n + 1) c6, .slice none 0 0] y fun e y' => e = .returned (.int .i64 0) ∧ y = y') := ⟨fun y h => by
        have h1 := refCmp_c A6 (n + 1) c6 L none 0 0 [] y.heap.size y h HI.out.1 ⟨rfl, fun h => absurd h (by omega)⟩ (words_of _ (by intro i hi; simp at hi)) (by have := HN.out; omega) (by omega)
        have e : cmpL L [] = 0 := by rw [cmpL, num_nil, if_neg (by omega), if_pos hz]
        rw [e] at h1
        exact h1⟩
      have FIN : Keep (D = res) := ⟨by have := HI.out.2.2.2.2.2; rw [hz, digs_zero, List.append_nil] at this; exact this⟩
      clear hz hv0
      go_wp2_with (go_at_call 45; refine (CM.out _ hrL).mono ?_; rintro e w' ⟨rfl, rfl⟩)
      go_ret2
      exact ⟨A7, m, c7, rfl, by rw [← FIN.out]; exact hoD, hb⟩
    · obtain ⟨g, rfl⟩ : ∃ g, gk = g + 1 := ⟨gk - 1, by
        rcases gk with _ | g
        · have := HI.out.2.2.2.1; simp at this; omega
        · omega⟩
      have CM : Keep (∀ y : World, Rd y y.heap.size A6 (n + 1) .u64 L → Calls Try.prog 45 #[.slice A6 (n + 1) c6, .slice none 0 0] y fun e y' => e = .returned (.int .i64 1) ∧ y = y') := ⟨fun y h => by
        have h1 := refCmp_c A6 (n + 1) c6 L none 0 0 [] y.heap.size y h HI.out.1 ⟨rfl, fun h => absurd h (by omega)⟩ (words_of _ (by intro i hi; simp at hi)) (by have := HN.out; omega) (by omega)
        have e : cmpL L [] = 1 := by rw [cmpL, num_nil, if_neg (by omega), if_neg hz]
        rw [e] at h1
        exact h1⟩
      obtain ⟨gl, rfl, hgl0, hgl1, hgn, hcl, hfl⟩ := hoL.at_ (by omega)
      obtain ⟨x0, hx0⟩ : ∃ x, nth L 0 = x := ⟨_, rfl⟩
      have hc0 := hcl 0 (by omega)
      rw [hx0] at hc0
      obtain ⟨d0, hd0⟩ : ∃ d, x0 % 16 = d := ⟨_, rfl⟩
      have bd0 : 0 ≤ d0 ∧ d0 < 16 := by omega
      have hmod : num L % (2 * 8) = d0 := by rw [← hd0, ← hx0]; exact num_mod_head (B := 16) (C := 1152921504606846976) (by decide)
      have hdig : dg 8 (num L) = if 8 < d0 then d0 - 16 else d0 := by unfold dg; rw [hmod]; rfl
      have hdb := dg_bounds (H := 8) (v := num L) (by decide)
      have hnx := nx_eq (H := 8) (v := num L) (by decide)
      have hnl := nx_less (H := 8) (v := num L) (by decide) hv0 HI.out.2.2.2.1
      have hn0 := nx_nonneg (H := 8) (v := num L) (by decide) hv0
      have hds : D ++ dg 8 (num L) :: digs 8 g (nx 8 (num L)) = res := by rw [← digs_step hz]; exact HI.out.2.2.2.2.2
      have NX : Keep (nx 8 (num L) < 2 ^ g ∧ m + 1 + g ≤ 64 * n ∧ 0 ≤ nx 8 (num L) ∧ nx 8 (num L) < wp n) := ⟨hnl, by have := HI.out.2.2.2.2.1; omega, hn0, by have := HI.out.2.2.1; omega⟩
      by_cases hbig : 8 < d0
      · have htm : x0.tmod 16 = d0 := by rw [Int.tmod_eq_emod_of_nonneg (by rw [← hx0]; exact (HI.out.1 0).1)]; exact hd0
        have hwd : wrap64 d0 = d0 := by unfold wrap64; omega
        obtain ⟨dgt, hdg⟩ : ∃ d, d0 - 16 = d := ⟨_, rfl⟩
        obtain ⟨dd, hdd⟩ : ∃ d, -dgt = d := ⟨_, rfl⟩
        rw [if_pos hbig, hdg] at hdig
        have bdd : 0 ≤ dd ∧ dd ≤ 256 := by omega
        have e1 : wrap64 (d0 - 16) = dgt := by rw [hdg]; unfold wrap64; omega
        have e2 : wrap64 (-dgt) = dd := by rw [hdd]; unfold wrap64; omega
        have e3 : IntKind.u64.wrap dd = dd := by rw [IntKind.wrap_u64]; omega
        obtain ⟨M, hM⟩ : ∃ o, addL L [dd] = o := ⟨_, rfl⟩
        have n1 : num [dd] = dd := by simp [num, low, nth, wp]
        have hnM : num M = 2 * 8 * nx 8 (num L) := by
          have hr := wp_room n
          have hlt := HI.out.2.2.1
          rw [← hM, addL, HI.out.2.1, show max (n + 1) [dd].length = n + 1 from Nat.max_eq_left (by simp), n1, num_wd_of (by omega) (by omega)]
          omega
        have HM : Keep (Words M ∧ M.length = n + 1 ∧ num M / 16 = nx 8 (num L)) := ⟨by rw [← hM]; exact wd_words _ _, by rw [← hM, addL, wd_len, HI.out.2.1]; exact Nat.max_eq_left (by simp), by rw [hnM]; exact Int.mul_ediv_cancel_left _ (by decide)⟩
        have HDS : Keep (D ++ dgt :: digs 8 g (nx 8 (num L)) = res) := ⟨by rw [← hdig]; exact hds⟩
        have PA : Keep (∀ (y : World) (g' : Nat), Rd y y.heap.size (some ⟨gl, 0, none⟩) (n + 1) .u64 L → Has y g' 23 (vals .u64 [dd]) → Calls Try.prog 51 #[.slice (some ⟨gl, 0, none⟩) (n + 1) c6, .slice (some ⟨g', 0, none⟩) 1 1] y fun e y' => ∃ A9 c9, e = .returned (.tuple #[.slice A9 (n + 1) c9, .int .u64 (addC L [dd])]) ∧ Own y' y.heap.size 23 .u64 A9 (n + 1) c9 M ∧ Below y.heap.size y y') := ⟨fun y g' h h' => by
          have h1 := refAdd_c (some ⟨gl, 0, none⟩) (n + 1) c6 L (some ⟨g', 0, none⟩) 1 1 [dd] y.heap.size y h HI.out.1 (Rd.of_has h' h'.lt (by rfl) (by simp)) (words_one (by omega) (by omega)) (Nat.le_refl _) (by have := HN.out; omega) (by omega)
          rw [hM, show max (n + 1) 1 = n + 1 from Nat.max_eq_left (by omega)] at h1
          exact h1⟩
        obtain ⟨cc, hcc⟩ : ∃ o, addC L [dd] = o := ⟨_, rfl⟩
        rw [hcc] at PA
        clear hnx hnl hn0 hdb hcl hmod hds hdig hv0 hz hd0 hx0 hM n1 hnM hcc
        go_wp2_with (first
          | (refine append_abs2 (by rfl) (.tmp 66) (.tmp 68) 40 (by rfl) S 3 .i64 8 Try.underlying40 i64Elem A7 m c7 D (by rfl) (hoD20.keep ((Below.refl _ _).alloc (Nat.le_refl _) _)) (w20.heap.size + 1) (some ⟨w20.heap.size, 0, none⟩) 1 1 [dgt] (by rfl) (Rd.of_has (Has.new w20 3 (vals .i64 [dgt])) (by omega) (by rfl) (by simp)) (m + 1) (by rfl) (D ++ [dgt]) (by rfl) (by have := NX.out.2.1; have := HN.out; omega) (by have := NX.out.2.1; have := HN.out; unfold maxLen; omega) (by have := HSS.out _ hb20; simp; omega) ?_
             intro A8 c8 w21 hoE21 hbx hsame
             have hal := (Below.refl w20.heap.size w20).alloc (Nat.le_refl _) (.cells (vals .i64 [dgt]) 3)
             have hoM21 := own_base (own_far (hoM20.keep hal) (fun g' hA => by
               cases hA
               exact hsame _ (by simp; omega) (fun g2 hA2 => by subst hA2; exact own_ne hoM20 hoD20 tne))) (HSS.out _ hb)
             have hb21 := (hb20.alloc (HSS.out _ hb20) (.cells (vals .i64 [dgt]) 3)).trans hbx
             clear hbx hsame hal hoM20 hoD20 hb20)
          | (go_at_call 51
             have hal := (Below.refl wr.heap.size wr).alloc (Nat.le_refl _) (.cells (vals .u64 [dd]) 23)
             refine (PA.out _ wr.heap.size (rd_here hrL hal) (Has.new _ _ _)).mono ?_
             rintro e w20 ⟨A9, c9, rfl, hoM20', hq⟩
             have hbe := hal.trans (hq.mono hal.size)
             have hoM20 := own_base (b' := wr.heap.size) hoM20' hal.size
             obtain ⟨gm, rfl, hgm0, hgm1, hgm2, -, -⟩ := hoM20.at_ (by omega)
             have hoD20 := hoD.keep hbe
             have hb20 := hb.trans (hbe.mono (HSS.out _ hb))
             clear hal hq hbe hoM20' hoL hoD hrL)
          | (go_at_call 45; refine (CM.out _ hrL).mono ?_; rintro e w' ⟨rfl, rfl⟩))
        go_loopg [13] (n + 1) (fun (gk : Nat) vi wr => ∃ k : Nat, k + gk = n + 1 ∧ vi = .int .i64 k ∧ Own wr S 23 .u64 (some ⟨gm, 0, none⟩) (n + 1) c9 (fill (n + 1) (shw M 16 1152921504606846976) (nth M) k) ∧ Own wr S 3 .i64 A8 (m + 1) c8 (D ++ [dgt]) ∧ Below S w wr)
        case atStart => exact ⟨0, by omega, rfl, by rw [fill_zero _ _ _ HM.out.2.1]; exact hoM21, hoE21, hb21⟩
        case round =>
          clear hoM21 hoE21 hb21
          obtain ⟨k, hk, rfl, hoP, hoE, hb5⟩ := hrel
          by_cases hlt : k < n + 1
          · obtain ⟨j, rfl⟩ : ∃ j, gk = j + 1 := ⟨gk - 1, by omega⟩
            obtain ⟨x, hx⟩ : ∃ x, nth M k = x := ⟨_, rfl⟩
            obtain ⟨y, hy⟩ : ∃ y, nth M (k + 1) = y := ⟨_, rfl⟩
            have bx := HM.out.1 k
            have by' := HM.out.1 (k + 1)
            rw [hx] at bx
            rw [hy] at by'
            have hcx : nth (fill (n + 1) (shw M 16 1152921504606846976) (nth M) k) k = x := by rw [fill_nth _ _ _ hlt, if_neg (by omega)]; exact hx
            have hcy : nth (fill (n + 1) (shw M 16 1152921504606846976) (nth M) k) (k + 1) = y := by
              rcases Nat.lt_or_ge (k + 1) (n + 1) with h | h
              · rw [fill_nth _ _ _ h, if_neg (by omega)]; exact hy
              · rw [nth_ge (by rw [fill_len]; exact h), ← hy, nth_ge (by rw [HM.out.2.1]; exact h)]
            obtain ⟨z, hz⟩ : ∃ z, shw M 16 1152921504606846976 k = z := ⟨_, rfl⟩
            have hzz : x / 16 + y % 16 * 1152921504606846976 = z := by rw [← hz, ← hx, ← hy]; rfl
            have bz := shw_word HM.out.1 (B := 16) (C := 1152921504606846976) (by decide) (by decide) (by decide) k
            rw [hz] at bz
            obtain ⟨P, hP⟩ : ∃ P, fill (n + 1) (shw M 16 1152921504606846976) (nth M) k = P := ⟨_, rfl⟩
            rw [hP] at hoP hcx hcy
            have HP : Keep (P.set k z = fill (n + 1) (shw M 16 1152921504606846976) (nth M) (k + 1)) := ⟨by rw [← hP]; exact fill_set _ _ hlt hz.symm⟩
            obtain ⟨hgs, hcP, -⟩ := own_cells hoP (Nat.succ_pos n)
            have hck := hcP k hlt
            rw [hcx] at hck
            have AT : Keep (∀ y' : World, Rd y' y'.heap.size (some ⟨gm, 0, none⟩) (n + 1) .u64 P → Calls Try.prog 52 #[.slice (some ⟨gm, 0, none⟩) (n + 1) c9, .int .i64 ((k : Int) + 1)] y' fun e y2 => e = .returned (.int .u64 y) ∧ Below y'.heap.size y' y2) := ⟨fun y' h => by
              have h1 := at_c (some ⟨gm, 0, none⟩) (n + 1) c9 P y'.heap.size (k + 1) y' h
              rw [hcy] at h1
              exact h1.mono fun e x' ⟨he, hx⟩ => ⟨he, hx ▸ Below.refl _ _⟩⟩
            have hrP := hoP.rd
            have hk1 : wrap64 ((k : Int) + 1) = (k : Int) + 1 := by have := HN.out; unfold wrap64; omega
            have HK2 : Keep (wrap64 ((k : Int) + 1) = ((k + 1 : Nat) : Int)) := ⟨hk1⟩
            obtain ⟨yc, hyc⟩ : ∃ v, y % 16 * 1152921504606846976 = v := ⟨_, rfl⟩
            have hsh : IntKind.u64.wrap (y * 1152921504606846976) = yc := by rw [IntKind.wrap_u64]; omega
            have hsm : IntKind.u64.wrap (x / 16 + yc) = z := by rw [IntKind.wrap_u64]; omega
            clear hzz hyc bx by' bz
            clear hz hx hy hP hcx hcy hcP
            go_wp2
            refine wp_fam 19 (by kernel_rfl) (by kernel_rfl) (fun I hI' fw hf hback => ?_)
            simp only [List.take_succ_cons, List.take_zero, List.drop_succ_cons, List.drop_zero]
            have c0 : ∀ j, (fw j).cell? ⟨gm, k, none⟩ = some (.int .u64 x) := fun j => ((hf j).cell (p := ⟨gm, k, none⟩) hgs).trans hck
            repeat (first | go_big_quiet_step (first | fail | (go_at_call 52; with_reducible exact calls_fam hf hback (AT.out _ (rd_here hrP (hf _))))))
            refine wpQuiet_nil ?_
            intro w6 hb6
            clear hsh hsm hk1
            have hoP6 := hoP.keep hb6
            have hoE6 := hoE.keep hb6
            have hbb6 := hb5.trans (hb6.mono (HSS.out _ hb5))
            clear c0 hf hback hb6 hck hrP hoP hoE hb5 AT
            obtain ⟨hgs6, hcP6, hfP6⟩ := own_cells hoP6 (Nat.succ_pos n)
            have co := hcP6 k hlt
            have zo := hfP6 k
            have hoP7 := hoP6.set_ hlt z
            rw [HP.out] at hoP7
            have hoE7 := own_far (w' := w6.setCell ⟨gm, k, none⟩ (.int .u64 z)) hoE6 (fun g' hA => heap_setCell_other w6 _ _ _ (by subst hA; exact (own_ne hoP6 hoE6 tne).symm))
            have hb7 := hbb6.setCell (p := ⟨gm, k, none⟩) (Nat.le_trans (HSS.out _ hb) hgm0) (.int .u64 z)
            clear hcP6 hfP6 hoP6 hoE6 hbb6
            go_wp2
            go_roundg j
            case measure => exact Nat.lt_succ_self _
            case rel => exact ⟨k + 1, by rw [Nat.add_assoc, Nat.add_comm 1 j]; exact hk, by first | rfl | rw [HK2.out], hoP7, hoE7, hb7⟩
          · obtain rfl : gk = 0 := by omega
            obtain rfl : k = n + 1 := by omega
            have eP : fill (n + 1) (shw M 16 1152921504606846976) (nth M) (n + 1) = tab (n + 1) (shw M 16 1152921504606846976) := fill_all_ _ _ _
            rw [eP] at hoP
            have hnum := shift_num HM.out.2.1 (B := 16) (C := 1152921504606846976) (by decide) (by decide)
            rw [HM.out.2.2] at hnum
            have HR : Keep (Words (tab (n + 1) (shw M 16 1152921504606846976)) ∧ (tab (n + 1) (shw M 16 1152921504606846976)).length = n + 1 ∧ num (tab (n + 1) (shw M 16 1152921504606846976)) < wp n ∧ num (tab (n + 1) (shw M 16 1152921504606846976)) < 2 ^ g ∧ m + 1 + g ≤ 64 * n ∧ (D ++ [dgt]) ++ digs 8 g (num (tab (n + 1) (shw M 16 1152921504606846976))) = res) := ⟨words_of _ (fun i hi => by
              rw [tab_len] at hi
              rw [tab_nth _ hi]
              exact shw_word HM.out.1 (by decide) (by decide) (by decide) i), tab_len _ _, by rw [hnum]; exact NX.out.2.2.2, by rw [hnum]; exact NX.out.1, NX.out.2.1, by rw [hnum, List.append_assoc]; exact HDS.out⟩
            clear eP hnum
            go_wp2
            go_roundg g
            case measure => omega
            case rel => exact ⟨_, _, _, _, _, _, _, rfl, rfl, hoP, hoE, HR, hb5⟩
      · have htm : x0.tmod 16 = d0 := by rw [Int.tmod_eq_emod_of_nonneg (by rw [← hx0]; exact (HI.out.1 0).1)]; exact hd0
        have hwd : wrap64 d0 = d0 := by unfold wrap64; omega
        obtain ⟨dgt, hdg⟩ : ∃ d, d0 = d := ⟨_, rfl⟩
        obtain ⟨dd, hdd⟩ : ∃ d, dgt = d := ⟨_, rfl⟩
        rw [if_neg hbig, hdg] at hdig
        have bdd : 0 ≤ dd ∧ dd ≤ 256 := by omega
        have e4 : dd = d0 := by omega
        have e3 : IntKind.u64.wrap d0 = d0 := by rw [IntKind.wrap_u64]; omega
        obtain ⟨M, hM⟩ : ∃ o, subL L [dd] = o := ⟨_, rfl⟩
        have n1 : num [dd] = dd := by simp [num, low, nth, wp]
        have hnM : num M = 2 * 8 * nx 8 (num L) := by
          have hr := wp_room n
          have hlt := HI.out.2.2.1
          rw [← hM, subL, HI.out.2.1, show max (n + 1) [dd].length = n + 1 from Nat.max_eq_left (by simp), n1, num_wd_of (by omega) (by omega)]
          omega
        have HM : Keep (Words M ∧ M.length = n + 1 ∧ num M / 16 = nx 8 (num L)) := ⟨by rw [← hM]; exact wd_words _ _, by rw [← hM, subL, wd_len, HI.out.2.1]; exact Nat.max_eq_left (by simp), by rw [hnM]; exact Int.mul_ediv_cancel_left _ (by decide)⟩
        have HDS : Keep (D ++ dgt :: digs 8 g (nx 8 (num L)) = res) := ⟨by rw [← hdig]; exact hds⟩
        have PA : Keep (∀ (y : World) (g' : Nat), Rd y y.heap.size (some ⟨gl, 0, none⟩) (n + 1) .u64 L → Has y g' 23 (vals .u64 [dd]) → Calls Try.prog 40 #[.slice (some ⟨gl, 0, none⟩) (n + 1) c6, .slice (some ⟨g', 0, none⟩) 1 1] y fun e y' => ∃ A9 c9, e = .returned (.tuple #[.slice A9 (n + 1) c9, .int .u64 (subC L [dd])]) ∧ Own y' y.heap.size 23 .u64 A9 (n + 1) c9 M ∧ Below y.heap.size y y') := ⟨fun y g' h h' => by
          have h1 := refSub_c (some ⟨gl, 0, none⟩) (n + 1) c6 L (some ⟨g', 0, none⟩) 1 1 [dd] y.heap.size y h HI.out.1 (Rd.of_has h' h'.lt (by rfl) (by simp)) (words_one (by omega) (by omega)) (Nat.le_refl _) (by have := HN.out; omega) (by omega)
          rw [hM, show max (n + 1) 1 = n + 1 from Nat.max_eq_left (by omega)] at h1
          exact h1⟩
        obtain ⟨cc, hcc⟩ : ∃ o, subC L [dd] = o := ⟨_, rfl⟩
        rw [hcc] at PA
        clear hnx hnl hn0 hdb hcl hmod hds hdig hv0 hz hd0 hx0 hM n1 hnM hcc
        rw [e4] at PA
        clear e4 hdd bdd
        have HDG : dgt = d0 := hdg.symm
        subst HDG
        go_wp2_with (first
          | (refine append_abs2 (by rfl) (.tmp 66) (.tmp 68) 40 (by rfl) S 3 .i64 8 Try.underlying40 i64Elem A7 m c7 D (by rfl) (hoD20.keep ((Below.refl _ _).alloc (Nat.le_refl _) _)) (w20.heap.size + 1) (some ⟨w20.heap.size, 0, none⟩) 1 1 [dgt] (by rfl) (Rd.of_has (Has.new w20 3 (vals .i64 [dgt])) (by omega) (by rfl) (by simp)) (m + 1) (by rfl) (D ++ [dgt]) (by rfl) (by have := NX.out.2.1; have := HN.out; omega) (by have := NX.out.2.1; have := HN.out; unfold maxLen; omega) (by have := HSS.out _ hb20; simp; omega) ?_
             intro A8 c8 w21 hoE21 hbx hsame
             have hal := (Below.refl w20.heap.size w20).alloc (Nat.le_refl _) (.cells (vals .i64 [dgt]) 3)
             have hoM21 := own_base (own_far (hoM20.keep hal) (fun g' hA => by
               cases hA
               exact hsame _ (by simp; omega) (fun g2 hA2 => by subst hA2; exact own_ne hoM20 hoD20 tne))) (HSS.out _ hb)
             have hb21 := (hb20.alloc (HSS.out _ hb20) (.cells (vals .i64 [dgt]) 3)).trans hbx
             clear hbx hsame hal hoM20 hoD20 hb20)
          | (go_at_call 40
             have hal := (Below.refl wr.heap.size wr).alloc (Nat.le_refl _) (.cells (vals .u64 [dgt]) 23)
             refine (PA.out _ wr.heap.size (rd_here hrL hal) (Has.new _ _ _)).mono ?_
             rintro e w20 ⟨A9, c9, rfl, hoM20', hq⟩
             have hbe := hal.trans (hq.mono hal.size)
             have hoM20 := own_base (b' := wr.heap.size) hoM20' hal.size
             obtain ⟨gm, rfl, hgm0, hgm1, hgm2, -, -⟩ := hoM20.at_ (by omega)
             have hoD20 := hoD.keep hbe
             have hb20 := hb.trans (hbe.mono (HSS.out _ hb))
             clear hal hq hbe hoM20' hoL hoD hrL)
          | (go_at_call 45; refine (CM.out _ hrL).mono ?_; rintro e w' ⟨rfl, rfl⟩))
        go_loopg [13] (n + 1) (fun (gk : Nat) vi wr => ∃ k : Nat, k + gk = n + 1 ∧ vi = .int .i64 k ∧ Own wr S 23 .u64 (some ⟨gm, 0, none⟩) (n + 1) c9 (fill (n + 1) (shw M 16 1152921504606846976) (nth M) k) ∧ Own wr S 3 .i64 A8 (m + 1) c8 (D ++ [dgt]) ∧ Below S w wr)
        case atStart => exact ⟨0, by omega, rfl, by rw [fill_zero _ _ _ HM.out.2.1]; exact hoM21, hoE21, hb21⟩
        case round =>
          clear hoM21 hoE21 hb21
          obtain ⟨k, hk, rfl, hoP, hoE, hb5⟩ := hrel
          by_cases hlt : k < n + 1
          · obtain ⟨j, rfl⟩ : ∃ j, gk = j + 1 := ⟨gk - 1, by omega⟩
            obtain ⟨x, hx⟩ : ∃ x, nth M k = x := ⟨_, rfl⟩
            obtain ⟨y, hy⟩ : ∃ y, nth M (k + 1) = y := ⟨_, rfl⟩
            have bx := HM.out.1 k
            have by' := HM.out.1 (k + 1)
            rw [hx] at bx
            rw [hy] at by'
            have hcx : nth (fill (n + 1) (shw M 16 1152921504606846976) (nth M) k) k = x := by rw [fill_nth _ _ _ hlt, if_neg (by omega)]; exact hx
            have hcy : nth (fill (n + 1) (shw M 16 1152921504606846976) (nth M) k) (k + 1) = y := by
              rcases Nat.lt_or_ge (k + 1) (n + 1) with h | h
              · rw [fill_nth _ _ _ h, if_neg (by omega)]; exact hy
              · rw [nth_ge (by rw [fill_len]; exact h), ← hy, nth_ge (by rw [HM.out.2.1]; exact h)]
            obtain ⟨z, hz⟩ : ∃ z, shw M 16 1152921504606846976 k = z := ⟨_, rfl⟩
            have hzz : x / 16 + y % 16 * 1152921504606846976 = z := by rw [← hz, ← hx, ← hy]; rfl
            have bz := shw_word HM.out.1 (B := 16) (C := 1152921504606846976) (by decide) (by decide) (by decide) k
            rw [hz] at bz
            obtain ⟨P, hP⟩ : ∃ P, fill (n + 1) (shw M 16 1152921504606846976) (nth M) k = P := ⟨_, rfl⟩
            rw [hP] at hoP hcx hcy
            have HP : Keep (P.set k z = fill (n + 1) (shw M 16 1152921504606846976) (nth M) (k + 1)) := ⟨by rw [← hP]; exact fill_set _ _ hlt hz.symm⟩
            obtain ⟨hgs, hcP, -⟩ := own_cells hoP (Nat.succ_pos n)
            have hck := hcP k hlt
            rw [hcx] at hck
            have AT : Keep (∀ y' : World, Rd y' y'.heap.size (some ⟨gm, 0, none⟩) (n + 1) .u64 P → Calls Try.prog 52 #[.slice (some ⟨gm, 0, none⟩) (n + 1) c9, .int .i64 ((k : Int) + 1)] y' fun e y2 => e = .returned (.int .u64 y) ∧ Below y'.heap.size y' y2) := ⟨fun y' h => by
              have h1 := at_c (some ⟨gm, 0, none⟩) (n + 1) c9 P y'.heap.size (k + 1) y' h
              rw [hcy] at h1
              exact h1.mono fun e x' ⟨he, hx⟩ => ⟨he, hx ▸ Below.refl _ _⟩⟩
            have hrP := hoP.rd
            have hk1 : wrap64 ((k : Int) + 1) = (k : Int) + 1 := by have := HN.out; unfold wrap64; omega
            have HK2 : Keep (wrap64 ((k : Int) + 1) = ((k + 1 : Nat) : Int)) := ⟨hk1⟩
            obtain ⟨yc, hyc⟩ : ∃ v, y % 16 * 1152921504606846976 = v := ⟨_, rfl⟩
            have hsh : IntKind.u64.wrap (y * 1152921504606846976) = yc := by rw [IntKind.wrap_u64]; omega
            have hsm : IntKind.u64.wrap (x / 16 + yc) = z := by rw [IntKind.wrap_u64]; omega
            clear hzz hyc bx by' bz
            clear hz hx hy hP hcx hcy hcP
            go_wp2
            refine wp_fam 19 (by kernel_rfl) (by kernel_rfl) (fun I hI' fw hf hback => ?_)
            simp only [List.take_succ_cons, List.take_zero, List.drop_succ_cons, List.drop_zero]
            have c0 : ∀ j, (fw j).cell? ⟨gm, k, none⟩ = some (.int .u64 x) := fun j => ((hf j).cell (p := ⟨gm, k, none⟩) hgs).trans hck
            repeat (first | go_big_quiet_step (first | fail | (go_at_call 52; with_reducible exact calls_fam hf hback (AT.out _ (rd_here hrP (hf _))))))
            refine wpQuiet_nil ?_
            intro w6 hb6
            clear hsh hsm hk1
            have hoP6 := hoP.keep hb6
            have hoE6 := hoE.keep hb6
            have hbb6 := hb5.trans (hb6.mono (HSS.out _ hb5))
            clear c0 hf hback hb6 hck hrP hoP hoE hb5 AT
            obtain ⟨hgs6, hcP6, hfP6⟩ := own_cells hoP6 (Nat.succ_pos n)
            have co := hcP6 k hlt
            have zo := hfP6 k
            have hoP7 := hoP6.set_ hlt z
            rw [HP.out] at hoP7
            have hoE7 := own_far (w' := w6.setCell ⟨gm, k, none⟩ (.int .u64 z)) hoE6 (fun g' hA => heap_setCell_other w6 _ _ _ (by subst hA; exact (own_ne hoP6 hoE6 tne).symm))
            have hb7 := hbb6.setCell (p := ⟨gm, k, none⟩) (Nat.le_trans (HSS.out _ hb) hgm0) (.int .u64 z)
            clear hcP6 hfP6 hoP6 hoE6 hbb6
            go_wp2
            go_roundg j
            case measure => exact Nat.lt_succ_self _
            case rel => exact ⟨k + 1, by rw [Nat.add_assoc, Nat.add_comm 1 j]; exact hk, by first | rfl | rw [HK2.out], hoP7, hoE7, hb7⟩
          · obtain rfl : gk = 0 := by omega
            obtain rfl : k = n + 1 := by omega
            have eP : fill (n + 1) (shw M 16 1152921504606846976) (nth M) (n + 1) = tab (n + 1) (shw M 16 1152921504606846976) := fill_all_ _ _ _
            rw [eP] at hoP
            have hnum := shift_num HM.out.2.1 (B := 16) (C := 1152921504606846976) (by decide) (by decide)
            rw [HM.out.2.2] at hnum
            have HR : Keep (Words (tab (n + 1) (shw M 16 1152921504606846976)) ∧ (tab (n + 1) (shw M 16 1152921504606846976)).length = n + 1 ∧ num (tab (n + 1) (shw M 16 1152921504606846976)) < wp n ∧ num (tab (n + 1) (shw M 16 1152921504606846976)) < 2 ^ g ∧ m + 1 + g ≤ 64 * n ∧ (D ++ [dgt]) ++ digs 8 g (num (tab (n + 1) (shw M 16 1152921504606846976))) = res) := ⟨words_of _ (fun i hi => by
              rw [tab_len] at hi
              rw [tab_nth _ hi]
              exact shw_word HM.out.1 (by decide) (by decide) (by decide) i), tab_len _ _, by rw [hnum]; exact NX.out.2.2.2, by rw [hnum]; exact NX.out.1, NX.out.2.1, by rw [hnum, List.append_assoc]; exact HDS.out⟩
            clear eP hnum
            go_wp2
            go_roundg g
            case measure => omega
            case rel => exact ⟨_, _, _, _, _, _, _, rfl, rfl, hoP, hoE, HR, hb5⟩

set_option maxRecDepth 100000 in
set_option maxHeartbeats 4000000 in
theorem refWindows_5 (A : Option Addr) (n c : Nat) (l : List Int) (B : Nat) (w : World) (hr : Rd w B A n .u64 l) (hwl : Words l) (hB : B ≤ w.heap.size) (hn : n ≤ 10000) : Calls Try.prog 31 #[.slice A n c, .int .i64 5] w fun e w' => ∃ A' m c', e = .returned (.tuple #[.slice A' m c', .int .i64 0]) ∧ Own w' w.heap.size 3 .i64 A' m c' (digs 16 (64 * n) (num l)) ∧ Below w.heap.size w w' := by
  obtain ⟨S, hS⟩ : ∃ S, w.heap.size = S := ⟨_, rfl⟩
  have hb0 : Below S w w := Below.refl _ _
  have HSS : Keep (∀ x : World, Below S w x → S ≤ x.heap.size) := ⟨fun x hb => by have := hb.size; omega⟩
  have HRD : Keep (∀ x : World, Below S w x → Rd x x.heap.size A n .u64 l) := ⟨fun x hb => (hr.keep hb (by omega)).more (Nat.le_trans hB (Nat.le_trans (by omega) (HSS.out _ hb)))⟩
  have LN : Keep (l.length = n) := ⟨hr.len⟩
  have HN : Keep (n ≤ 10000) := ⟨hn⟩
  obtain ⟨res, hres⟩ : ∃ o, digs 16 (64 * n) (num l) = o := ⟨_, rfl⟩
  have H0 : Keep (Words (l ++ [0]) ∧ (l ++ [0]).length = n + 1 ∧ num (l ++ [0]) < wp n ∧ num (l ++ [0]) < 2 ^ (64 * n) ∧ 0 + 64 * n ≤ 64 * n ∧ [] ++ digs 16 (64 * n) (num (l ++ [0])) = res) := ⟨by
    have e : num (l ++ [0]) = num l := by rw [num_append]; simp [num, low, nth]
    have hb := num_bounds hwl
    rw [LN.out] at hb
    refine ⟨words_append hwl (words_of _ (by decide)), by rw [List.length_append, LN.out]; rfl, by rw [e]; exact hb.2, by rw [e, ← tp, tp_wp]; exact hb.2, by omega, by rw [e]; exact hres⟩⟩
  rw [hres, hS]
  clear hr hwl hB hn hres
  go_enter Try.func31, Try.ntmps31
  go_wp2_with (first
    | (refine append_abs (by rfl) (.tmp 22) (.tmp 23) 39 (by rfl) S 23 .u64 8 Try.underlying39 u64Elem A1 n c1 l (by rfl) (ho1.keep ((Below.refl _ _).alloc (Nat.le_refl _) _)) (w1.heap.size + 1) (some ⟨w1.heap.size, 0, none⟩) 1 1 [0] (by rfl) (Rd.of_has (Has.new w1 23 (vals .u64 [0])) (by omega) (by rfl) (by simp)) (n + 1) (by rfl) (l ++ [0]) (by rfl) (by have := HN.out; omega) (by have := HN.out; unfold maxLen; omega) (by have := HSS.out _ hb1; simp; omega) ?_
       intro A2 c2 w2 ho2 hbx
       have hb2 := (hb1.alloc (HSS.out _ hb1) (.cells (vals .u64 [0]) 23)).trans hbx
       clear hbx hb1 ho1)
    | (refine append_abs (by rfl) (.tmp 20) (.tmp 21) 39 (by rfl) S 23 .u64 8 Try.underlying39 u64Elem (some ⟨S, 0, none⟩) 0 0 [] (by rfl) (Own.of_has (Has.new' w hS.symm 23 (vals .u64 [])) (Nat.le_refl _) (Nat.zero_le _)) (S + 1) A n c l (by rfl) (((HRD.out _ hb0).keep ((Below.refl w.heap.size w).alloc (Nat.le_refl _) _) (Nat.le_refl _)).more (by omega)) n (Nat.zero_add n) l (by rfl) (by have := HN.out; omega) (by have := HN.out; unfold maxLen; omega) (by simp; omega) ?_
       intro A1 c1 w1 ho1 hbx
       have hb1 := (hb0.alloc (by omega) (.cells (vals .u64 []) 23)).trans hbx
       clear hbx))
  go_loopg [6, 7] (64 * n) (fun (gk : Nat) vl vo wr => ∃ (A6 : Option Addr) (c6 : Nat) (L : List Int) (A7 : Option Addr) (m c7 : Nat) (D : List Int), vl = .slice A6 (n + 1) c6 ∧ vo = .slice A7 m c7 ∧ Own wr S 23 .u64 A6 (n + 1) c6 L ∧ Own wr S 3 .i64 A7 m c7 D ∧ Keep (Words L ∧ L.length = n + 1 ∧ num L < wp n ∧ num L < 2 ^ gk ∧ m + gk ≤ 64 * n ∧ D ++ digs 16 gk (num L) = res) ∧ Below S w wr)
  case atStart => exact ⟨A2, c2, l ++ [0], none, 0, 0, [], rfl, rfl, ho2, own_none _ _ _ _, H0, hb2⟩
  case round =>
    clear ho2 hb2
    obtain ⟨A6, c6, L, A7, m, c7, D, rfl, rfl, hoL, hoD, HI, hb⟩ := hrel
    have hv0 := (num_bounds HI.out.1).1
    have hrL := hoL.rd
    by_cases hz : num L = 0
    · have CM : Keep (∀ y : World, Rd y y.heap.size A6 (n + 1) .u64 L → Calls Try.prog 45 #[.slice A6 (n + 1) c6, .slice none 0 0] y fun e y' => e = .returned (.int .i64 0) ∧ y = y') := ⟨fun y h => by
        have h1 := refCmp_c A6 (n + 1) c6 L none 0 0 [] y.heap.size y h HI.out.1 ⟨rfl, fun h => absurd h (by omega)⟩ (words_of _ (by intro i hi; simp at hi)) (by have := HN.out; omega) (by omega)
        have e : cmpL L [] = 0 := by rw [cmpL, num_nil, if_neg (by omega), if_pos hz]
        rw [e] at h1
        exact h1⟩
      have FIN : Keep (D = res) := ⟨by have := HI.out.2.2.2.2.2; rw [hz, digs_zero, List.append_nil] at this; exact this⟩
      clear hz hv0
      go_wp2_with (go_at_call 45; refine (CM.out _ hrL).mono ?_; rintro e w' ⟨rfl, rfl⟩)
      go_ret2
      exact ⟨A7, m, c7, rfl, by rw [← FIN.out]; exact hoD, hb⟩
    · obtain ⟨g, rfl⟩ : ∃ g, gk = g + 1 := ⟨gk - 1, by
        rcases gk with _ | g
        · have := HI.out.2.2.2.1; simp at this; omega
        · omega⟩
      have CM : Keep (∀ y : World, Rd y y.heap.size A6 (n + 1) .u64 L → Calls Try.prog 45 #[.slice A6 (n + 1) c6, .slice none 0 0] y fun e y' => e = .returned (.int .i64 1) ∧ y = y') := ⟨fun y h => by
        have h1 := refCmp_c A6 (n + 1) c6 L none 0 0 [] y.heap.size y h HI.out.1 ⟨rfl, fun h => absurd h (by omega)⟩ (words_of _ (by intro i hi; simp at hi)) (by have := HN.out; omega) (by omega)
        have e : cmpL L [] = 1 := by rw [cmpL, num_nil, if_neg (by omega), if_neg hz]
        rw [e] at h1
        exact h1⟩
      obtain ⟨gl, rfl, hgl0, hgl1, hgn, hcl, hfl⟩ := hoL.at_ (by omega)
      obtain ⟨x0, hx0⟩ : ∃ x, nth L 0 = x := ⟨_, rfl⟩
      have hc0 := hcl 0 (by omega)
      rw [hx0] at hc0
      obtain ⟨d0, hd0⟩ : ∃ d, x0 % 32 = d := ⟨_, rfl⟩
      have bd0 : 0 ≤ d0 ∧ d0 < 32 := by omega
      have hmod : num L % (2 * 16) = d0 := by rw [← hd0, ← hx0]; exact num_mod_head (B := 32) (C := 576460752303423488) (by decide)
      have hdig : dg 16 (num L) = if 16 < d0 then d0 - 32 else d0 := by unfold dg; rw [hmod]; rfl
      have hdb := dg_bounds (H := 16) (v := num L) (by decide)
      have hnx := nx_eq (H := 16) (v := num L) (by decide)
      have hnl := nx_less (H := 16) (v := num L) (by decide) hv0 HI.out.2.2.2.1
      have hn0 := nx_nonneg (H := 16) (v := num L) (by decide) hv0
      have hds : D ++ dg 16 (num L) :: digs 16 g (nx 16 (num L)) = res := by rw [← digs_step hz]; exact HI.out.2.2.2.2.2
      have NX : Keep (nx 16 (num L) < 2 ^ g ∧ m + 1 + g ≤ 64 * n ∧ 0 ≤ nx 16 (num L) ∧ nx 16 (num L) < wp n) := ⟨hnl, by have := HI.out.2.2.2.2.1; omega, hn0, by have := HI.out.2.2.1; omega⟩
      by_cases hbig : 16 < d0
      · have htm : x0.tmod 32 = d0 := by rw [Int.tmod_eq_emod_of_nonneg (by rw [← hx0]; exact (HI.out.1 0).1)]; exact hd0
        have hwd : wrap64 d0 = d0 := by unfold wrap64; omega
        obtain ⟨dgt, hdg⟩ : ∃ d, d0 - 32 = d := ⟨_, rfl⟩
        obtain ⟨dd, hdd⟩ : ∃ d, -dgt = d := ⟨_, rfl⟩
        rw [if_pos hbig, hdg] at hdig
        have bdd : 0 ≤ dd ∧ dd ≤ 256 := by omega
        have e1 : wrap64 (d0 - 32) = dgt := by rw [hdg]; unfold wrap64; omega
        have e2 : wrap64 (-dgt) = dd := by rw [hdd]; unfold wrap64; omega
        have e3 : IntKind.u64.wrap dd = dd := by rw [IntKind.wrap_u64]; omega
        obtain ⟨M, hM⟩ : ∃ o, addL L [dd] = o := ⟨_, rfl⟩
        have n1 : num [dd] = dd := by simp [num, low, nth, wp]
        have hnM : num M = 2 * 16 * nx 16 (num L) := by
          have hr := wp_room n
          have hlt := HI.out.2.2.1
          rw [← hM, addL, HI.out.2.1, show max (n + 1) [dd].length = n + 1 from Nat.max_eq_left (by simp), n1, num_wd_of (by omega) (by omega)]
          omega
        have HM : Keep (Words M ∧ M.length = n + 1 ∧ num M / 32 = nx 16 (num L)) := ⟨by rw [← hM]; exact wd_words _ _, by rw [← hM, addL, wd_len, HI.out.2.1]; exact Nat.max_eq_left (by simp), by rw [hnM]; exact Int.mul_ediv_cancel_left _ (by decide)⟩
        have HDS : Keep (D ++ dgt :: digs 16 g (nx 16 (num L)) = res) := ⟨by rw [← hdig]; exact hds⟩
        have PA : Keep (∀ (y : World) (g' : Nat), Rd y y.heap.size (some ⟨gl, 0, none⟩) (n + 1) .u64 L → Has y g' 23 (vals .u64 [dd]) → Calls Try.prog 51 #[.slice (some ⟨gl, 0, none⟩) (n + 1) c6, .slice (some ⟨g', 0, none⟩) 1 1] y fun e y' => ∃ A9 c9, e = .returned (.tuple #[.slice A9 (n + 1) c9, .int .u64 (addC L [dd])]) ∧ Own y' y.heap.size 23 .u64 A9 (n + 1) c9 M ∧ Below y.heap.size y y') := ⟨fun y g' h h' => by
          have h1 := refAdd_c (some ⟨gl, 0, none⟩) (n + 1) c6 L (some ⟨g', 0, none⟩) 1 1 [dd] y.heap.size y h HI.out.1 (Rd.of_has h' h'.lt (by rfl) (by simp)) (words_one (by omega) (by omega)) (Nat.le_refl _) (by have := HN.out; omega) (by omega)
          rw [hM, show max (n + 1) 1 = n + 1 from Nat.max_eq_left (by omega)] at h1
          exact h1⟩
        obtain ⟨cc, hcc⟩ : ∃ o, addC L [dd] = o := ⟨_, rfl⟩
        rw [hcc] at PA
        clear hnx hnl hn0 hdb hcl hmod hds hdig hv0 hz hd0 hx0 hM n1 hnM hcc
        go_wp2_with (first
          | (refine append_abs2 (by rfl) (.tmp 66) (.tmp 68) 40 (by rfl) S 3 .i64 8 Try.underlying40 i64Elem A7 m c7 D (by rfl) (hoD20.keep ((Below.refl _ _).alloc (Nat.le_refl _) _)) (w20.heap.size + 1) (some ⟨w20.heap.size, 0, none⟩) 1 1 [dgt] (by rfl) (Rd.of_has (Has.new w20 3 (vals .i64 [dgt])) (by omega) (by rfl) (by simp)) (m + 1) (by rfl) (D ++ [dgt]) (by rfl) (by have := NX.out.2.1; have := HN.out; omega) (by have := NX.out.2.1; have := HN.out; unfold maxLen; omega) (by have := HSS.out _ hb20; simp; omega) ?_
             intro A8 c8 w21 hoE21 hbx hsame
             have hal := (Below.refl w20.heap.size w20).alloc (Nat.le_refl _) (.cells (vals .i64 [dgt]) 3)
             have hoM21 := own_base (own_far (hoM20.keep hal) (fun g' hA => by
               cases hA
               exact hsame _ (by simp; omega) (fun g2 hA2 => by subst hA2; exact own_ne hoM20 hoD20 tne))) (HSS.out _ hb)
             have hb21 := (hb20.alloc (HSS.out _ hb20) (.cells (vals .i64 [dgt]) 3)).trans hbx
             clear hbx hsame hal hoM20 hoD20 hb20)
          | (go_at_call 51
             have hal := (Below.refl wr.heap.size wr).alloc (Nat.le_refl _) (.cells (vals .u64 [dd]) 23)
             refine (PA.out _ wr.heap.size (rd_here hrL hal) (Has.new _ _ _)).mono ?_
             rintro e w20 ⟨A9, c9, rfl, hoM20', hq⟩
             have hbe := hal.trans (hq.mono hal.size)
             have hoM20 := own_base (b' := wr.heap.size) hoM20' hal.size
             obtain ⟨gm, rfl, hgm0, hgm1, hgm2, -, -⟩ := hoM20.at_ (by omega)
             have hoD20 := hoD.keep hbe
             have hb20 := hb.trans (hbe.mono (HSS.out _ hb))
             clear hal hq hbe hoM20' hoL hoD hrL)
          | (go_at_call 45; refine (CM.out _ hrL).mono ?_; rintro e w' ⟨rfl, rfl⟩))
        go_loopg [13] (n + 1) (fun (gk : Nat) vi wr => ∃ k : Nat, k + gk = n + 1 ∧ vi = .int .i64 k ∧ Own wr S 23 .u64 (some ⟨gm, 0, none⟩) (n + 1) c9 (fill (n + 1) (shw M 32 576460752303423488) (nth M) k) ∧ Own wr S 3 .i64 A8 (m + 1) c8 (D ++ [dgt]) ∧ Below S w wr)
        case atStart => exact ⟨0, by omega, rfl, by rw [fill_zero _ _ _ HM.out.2.1]; exact hoM21, hoE21, hb21⟩
        case round =>
          clear hoM21 hoE21 hb21
          obtain ⟨k, hk, rfl, hoP, hoE, hb5⟩ := hrel
          by_cases hlt : k < n + 1
          · obtain ⟨j, rfl⟩ : ∃ j, gk = j + 1 := ⟨gk - 1, by omega⟩
            obtain ⟨x, hx⟩ : ∃ x, nth M k = x := ⟨_, rfl⟩
            obtain ⟨y, hy⟩ : ∃ y, nth M (k + 1) = y := ⟨_, rfl⟩
            have bx := HM.out.1 k
            have by' := HM.out.1 (k + 1)
            rw [hx] at bx
            rw [hy] at by'
            have hcx : nth (fill (n + 1) (shw M 32 576460752303423488) (nth M) k) k = x := by rw [fill_nth _ _ _ hlt, if_neg (by omega)]; exact hx
            have hcy : nth (fill (n + 1) (shw M 32 576460752303423488) (nth M) k) (k + 1) = y := by
              rcases Nat.lt_or_ge (k + 1) (n + 1) with h | h
              · rw [fill_nth _ _ _ h, if_neg (by omega)]; exact hy
              · rw [nth_ge (by rw [fill_len]; exact h), ← hy, nth_ge (by rw [HM.out.2.1]; exact h)]
            obtain ⟨z, hz⟩ : ∃ z, shw M 32 576460752303423488 k = z := ⟨_, rfl⟩
            have hzz : x / 32 + y % 32 * 576460752303423488 = z := by rw [← hz, ← hx, ← hy]; rfl
            have bz := shw_word HM.out.1 (B := 32) (C := 576460752303423488) (by decide) (by decide) (by decide) k
            rw [hz] at bz
            obtain ⟨P, hP⟩ : ∃ P, fill (n + 1) (shw M 32 576460752303423488) (nth M) k = P := ⟨_, rfl⟩
            rw [hP] at hoP hcx hcy
            have HP : Keep (P.set k z = fill (n + 1) (shw M 32 576460752303423488) (nth M) (k + 1)) := ⟨by rw [← hP]; exact fill_set _ _ hlt hz.symm⟩
            obtain ⟨hgs, hcP, -⟩ := own_cells hoP (Nat.succ_pos n)
            have hck := hcP k hlt
            rw [hcx] at hck
            have AT : Keep (∀ y' : World, Rd y' y'.heap.size (some ⟨gm, 0, none⟩) (n + 1) .u64 P → Calls Try.prog 52 #[.slice (some ⟨gm, 0, none⟩) (n + 1) c9, .int .i64 ((k : Int) + 1)] y' fun e y2 => e = .returned (.int .u64 y) ∧ Below y'.heap.size y' y2) := ⟨fun y' h => by
              have h1 := at_c (some ⟨gm, 0, none⟩) (n + 1) c9 P y'.heap.size (k + 1) y' h
              rw [hcy] at h1
              exact h1.mono fun e x' ⟨he, hx⟩ => ⟨he, hx ▸ Below.refl _ _⟩⟩
            have hrP := hoP.rd
            have hk1 : wrap64 ((k : Int) + 1) = (k : Int) + 1 := by have := HN.out; unfold wrap64; omega
            have HK2 : Keep (wrap64 ((k : Int) + 1) = ((k + 1 : Nat) : Int)) := ⟨hk1⟩
            obtain ⟨yc, hyc⟩ : ∃ v, y % 32 * 576460752303423488 = v := ⟨_, rfl⟩
            have hsh : IntKind.u64.wrap (y * 576460752303423488) = yc := by rw [IntKind.wrap_u64]; omega
            have hsm : IntKind.u64.wrap (x / 32 + yc) = z := by rw [IntKind.wrap_u64]; omega
            clear hzz hyc bx by' bz
            clear hz hx hy hP hcx hcy hcP
            go_wp2
            refine wp_fam 19 (by kernel_rfl) (by kernel_rfl) (fun I hI' fw hf hback => ?_)
            simp only [List.take_succ_cons, List.take_zero, List.drop_succ_cons, List.drop_zero]
            have c0 : ∀ j, (fw j).cell? ⟨gm, k, none⟩ = some (.int .u64 x) := fun j => ((hf j).cell (p := ⟨gm, k, none⟩) hgs).trans hck
            repeat (first | go_big_quiet_step (first | fail | (go_at_call 52; with_reducible exact calls_fam hf hback (AT.out _ (rd_here hrP (hf _))))))
            refine wpQuiet_nil ?_
            intro w6 hb6
            clear hsh hsm hk1
            have hoP6 := hoP.keep hb6
            have hoE6 := hoE.keep hb6
            have hbb6 := hb5.trans (hb6.mono (HSS.out _ hb5))
            clear c0 hf hback hb6 hck hrP hoP hoE hb5 AT
            obtain ⟨hgs6, hcP6, hfP6⟩ := own_cells hoP6 (Nat.succ_pos n)
            have co := hcP6 k hlt
            have zo := hfP6 k
            have hoP7 := hoP6.set_ hlt z
            rw [HP.out] at hoP7
            have hoE7 := own_far (w' := w6.setCell ⟨gm, k, none⟩ (.int .u64 z)) hoE6 (fun g' hA => heap_setCell_other w6 _ _ _ (by subst hA; exact (own_ne hoP6 hoE6 tne).symm))
            have hb7 := hbb6.setCell (p := ⟨gm, k, none⟩) (Nat.le_trans (HSS.out _ hb) hgm0) (.int .u64 z)
            clear hcP6 hfP6 hoP6 hoE6 hbb6
            go_wp2
            go_roundg j
            case measure => exact Nat.lt_succ_self _
            case rel => exact ⟨k + 1, by rw [Nat.add_assoc, Nat.add_comm 1 j]; exact hk, by first | rfl | rw [HK2.out], hoP7, hoE7, hb7⟩
          · obtain rfl : gk = 0 := by omega
            obtain rfl : k = n + 1 := by omega
            have eP : fill (n + 1) (shw M 32 576460752303423488) (nth M) (n + 1) = tab (n + 1) (shw M 32 576460752303423488) := fill_all_ _ _ _
            rw [eP] at hoP
            have hnum := shift_num HM.out.2.1 (B := 32) (C := 576460752303423488) (by decide) (by decide)
            rw [HM.out.2.2] at hnum
            have HR : Keep (Words (tab (n + 1) (shw M 32 576460752303423488)) ∧ (tab (n + 1) (shw M 32 576460752303423488)).length = n + 1 ∧ num (tab (n + 1) (shw M 32 576460752303423488)) < wp n ∧ num (tab (n + 1) (shw M 32 576460752303423488)) < 2 ^ g ∧ m + 1 + g ≤ 64 * n ∧ (D ++ [dgt]) ++ digs 16 g (num (tab (n + 1) (shw M 32 576460752303423488))) = res) := ⟨words_of _ (fun i hi => by
              rw [tab_len] at hi
              rw [tab_nth _ hi]
              exact shw_word HM.out.1 (by decide) (by decide) (by decide) i), tab_len _ _, by rw [hnum]; exact NX.out.2.2.2, by rw [hnum]; exact NX.out.1, NX.out.2.1, by rw [hnum, List.append_assoc]; exact HDS.out⟩
            clear eP hnum
            go_wp2
            go_roundg g
            case measure => omega
            case rel => exact ⟨_, _, _, _, _, _, _, rfl, rfl, hoP, hoE, HR, hb5⟩
      · have htm : x0.tmod 32 = d0 := by rw [Int.tmod_eq_emod_of_nonneg (by rw [← hx0]; exact (HI.out.1 0).1)]; exact hd0
        have hwd : wrap64 d0 = d0 := by unfold wrap64; omega
        obtain ⟨dgt, hdg⟩ : ∃ d, d0 = d := ⟨_, rfl⟩
        obtain ⟨dd, hdd⟩ : ∃ d, dgt = d := ⟨_, rfl⟩
        rw [if_neg hbig, hdg] at hdig
        have bdd : 0 ≤ dd ∧ dd ≤ 256 := by omega
        have e4 : dd = d0 := by omega
        have e3 : IntKind.u64.wrap d0 = d0 := by rw [IntKind.wrap_u64]; omega
        obtain ⟨M, hM⟩ : ∃ o, subL L [dd] = o := ⟨_, rfl⟩
        have n1 : num [dd] = dd := by simp [num, low, nth, wp]
        have hnM : num M = 2 * 16 * nx 16 (num L) := by
          have hr := wp_room n
          have hlt := HI.out.2.2.1
          rw [← hM, subL, HI.out.2.1, show max (n + 1) [dd].length = n + 1 from Nat.max_eq_left (by simp), n1, num_wd_of (by omega) (by omega)]
          omega
        have HM : Keep (Words M ∧ M.length = n + 1 ∧ num M / 32 = nx 16 (num L)) := ⟨by rw [← hM]; exact wd_words _ _, by rw [← hM, subL, wd_len, HI.out.2.1]; exact Nat.max_eq_left (by simp), by rw [hnM]; exact Int.mul_ediv_cancel_left _ (by decide)⟩
        have HDS : Keep (D ++ dgt :: digs 16 g (nx 16 (num L)) = res) := ⟨by rw [← hdig]; exact hds⟩
        have PA : Keep (∀ (y : World) (g' : Nat), Rd y y.heap.size (some ⟨gl, 0, none⟩) (n + 1) .u64 L → Has y g' 23 (vals .u64 [dd]) → Calls Try.prog 40 #[.slice (some ⟨gl, 0, none⟩) (n + 1) c6, .slice (some ⟨g', 0, none⟩) 1 1] y fun e y' => ∃ A9 c9, e = .returned (.tuple #[.slice A9 (n + 1) c9, .int .u64 (subC L [dd])]) ∧ Own y' y.heap.size 23 .u64 A9 (n + 1) c9 M ∧ Below y.heap.size y y') := ⟨fun y g' h h' => by
          have h1 := refSub_c (some ⟨gl, 0, none⟩) (n + 1) c6 L (some ⟨g', 0, none⟩) 1 1 [dd] y.heap.size y h HI.out.1 (Rd.of_has h' h'.lt (by rfl) (by simp)) (words_one (by omega) (by omega)) (Nat.le_refl _) (by have := HN.out; omega) (by omega)
          rw [hM, show max (n + 1) 1 = n + 1 from Nat.max_eq_left (by omega)] at h1
          exact h1⟩
        obtain ⟨cc, hcc⟩ : ∃ o, subC L [dd] = o := ⟨_, rfl⟩
        rw [hcc] at PA
        clear hnx hnl hn0 hdb hcl hmod hds hdig hv0 hz hd0 hx0 hM n1 hnM hcc
        rw [e4] at PA
        clear e4 hdd bdd
        have HDG : dgt = d0 := hdg.symm
        subst HDG
        go_wp2_with (first
          | (refine append_abs2 (by rfl) (.tmp 66) (.tmp 68) 40 (by rfl) S 3 .i64 8 Try.underlying40 i64Elem A7 m c7 D (by rfl) (hoD20.keep ((Below.refl _ _).alloc (Nat.le_refl _) _)) (w20.heap.size + 1) (some ⟨w20.heap.size, 0, none⟩) 1 1 [dgt] (by rfl) (Rd.of_has (Has.new w20 3 (vals .i64 [dgt])) (by omega) (by rfl) (by simp)) (m + 1) (by rfl) (D ++ [dgt]) (by rfl) (by have := NX.out.2.1; have := HN.out; omega) (by have := NX.out.2.1; have := HN.out; unfold maxLen; omega) (by have := HSS.out _ hb20; simp; omega) ?_
             intro A8 c8 w21 hoE21 hbx hsame
             have hal := (Below.refl w20.heap.size w20).alloc (Nat.le_refl _) (.cells (vals .i64 [dgt]) 3)
             have hoM21 := own_base (own_far (hoM20.keep hal) (fun g' hA => by
               cases hA
               exact hsame _ (by simp; omega) (fun g2 hA2 => by subst hA2; exact own_ne hoM20 hoD20 tne))) (HSS.out _ hb)
             have hb21 := (hb20.alloc (HSS.out _ hb20) (.cells (vals .i64 [dgt]) 3)).trans hbx
             clear hbx hsame hal hoM20 hoD20 hb20)
          | (go_at_call 40
             have hal := (Below.refl wr.heap.size wr).alloc (Nat.le_refl _) (.cells (vals .u64 [dgt]) 23)
             refine (PA.out _ wr.heap.size (rd_here hrL hal) (Has.new _ _ _)).mono ?_
             rintro e w20 ⟨A9, c9, rfl, hoM20', hq⟩
             have hbe := hal.trans (hq.mono hal.size)
             have hoM20 := own_base (b' := wr.heap.size) hoM20' hal.size
             obtain ⟨gm, rfl, hgm0, hgm1, hgm2, -, -⟩ := hoM20.at_ (by omega)
             have hoD20 := hoD.keep hbe
             have hb20 := hb.trans (hbe.mono (HSS.out _ hb))
             clear hal hq hbe hoM20' hoL hoD hrL)
          | (go_at_call 45; refine (CM.out _ hrL).mono ?_; rintro e w' ⟨rfl, rfl⟩))
        go_loopg [13] (n + 1) (fun (gk : Nat) vi wr => ∃ k : Nat, k + gk = n + 1 ∧ vi = .int .i64 k ∧ Own wr S 23 .u64 (some ⟨gm, 0, none⟩) (n + 1) c9 (fill (n + 1) (shw M 32 576460752303423488) (nth M) k) ∧ Own wr S 3 .i64 A8 (m + 1) c8 (D ++ [dgt]) ∧ Below S w wr)
        case atStart => exact ⟨0, by omega, rfl, by rw [fill_zero _ _ _ HM.out.2.1]; exact hoM21, hoE21, hb21⟩
        case round =>
          clear hoM21 hoE21 hb21
          obtain ⟨k, hk, rfl, hoP, hoE, hb5⟩ := hrel
          by_cases hlt : k < n + 1
          · obtain ⟨j, rfl⟩ : ∃ j, gk = j + 1 := ⟨gk - 1, by omega⟩
            obtain ⟨x, hx⟩ : ∃ x, nth M k = x := ⟨_, rfl⟩
            obtain ⟨y, hy⟩ : ∃ y, nth M (k + 1) = y := ⟨_, rfl⟩
            have bx := HM.out.1 k
            have by' := HM.out.1 (k + 1)
            rw [hx] at bx
            rw [hy] at by'
            have hcx : nth (fill (n + 1) (shw M 32 576460752303423488) (nth M) k) k = x := by rw [fill_nth _ _ _ hlt, if_neg (by omega)]; exact hx
            have hcy : nth (fill (n + 1) (shw M 32 576460752303423488) (nth M) k) (k + 1) = y := by
              rcases Nat.lt_or_ge (k + 1) (n + 1) with h | h
              · rw [fill_nth _ _ _ h, if_neg (by omega)]; exact hy
              · rw [nth_ge (by rw [fill_len]; exact h), ← hy, nth_ge (by rw [HM.out.2.1]; exact h)]
            obtain ⟨z, hz⟩ : ∃ z, shw M 32 576460752303423488 k = z := ⟨_, rfl⟩
            have hzz : x / 32 + y % 32 * 576460752303423488 = z := by rw [← hz, ← hx, ← hy]; rfl
            have bz := shw_word HM.out.1 (B := 32) (C := 576460752303423488) (by decide) (by decide) (by decide) k
            rw [hz] at bz
            obtain ⟨P, hP⟩ : ∃ P, fill (n + 1) (shw M 32 576460752303423488) (nth M) k = P := ⟨_, rfl⟩
            rw [hP] at hoP hcx hcy
            have HP : Keep (P.set k z = fill (n + 1) (shw M 32 576460752303423488) (nth M) (k + 1)) := ⟨by rw [← hP]; exact fill_set _ _ hlt hz.symm⟩
            obtain ⟨hgs, hcP, -⟩ := own_cells hoP (Nat.succ_pos n)
            have hck := hcP k hlt
            rw [hcx] at hck
            have AT : Keep (∀ y' : World, Rd y' y'.heap.size (some ⟨gm, 0, none⟩) (n + 1) .u64 P → Calls Try.prog 52 #[.slice (some ⟨gm, 0, none⟩) (n + 1) c9, .int .i64 ((k : Int) + 1)] y' fun e y2 => e = .returned (.int .u64 y) ∧ Below y'.heap.size y' y2) := ⟨fun y' h => by
              have h1 := at_c (some ⟨gm, 0, none⟩) (n + 1) c9 P y'.heap.size (k + 1) y' h
              rw [hcy] at h1
              exact h1.mono fun e x' ⟨he, hx⟩ => ⟨he, hx ▸ Below.refl _ _⟩⟩
            have hrP := hoP.rd
            have hk1 : wrap64 ((k : Int) + 1) = (k : Int) + 1 := by have := HN.out; unfold wrap64; omega
            have HK2 : Keep (wrap64 ((k : Int) + 1) = ((k + 1 : Nat) : Int)) := ⟨hk1⟩
            obtain ⟨yc, hyc⟩ : ∃ v, y % 32 * 576460752303423488 = v := ⟨_, rfl⟩
            have hsh : IntKind.u64.wrap (y * 576460752303423488) = yc := by rw [IntKind.wrap_u64]; omega
            have hsm : IntKind.u64.wrap (x / 32 + yc) = z := by rw [IntKind.wrap_u64]; omega
            clear hzz hyc bx by' bz
            clear hz hx hy hP hcx hcy hcP
            go_wp2
            refine wp_fam 19 (by kernel_rfl) (by kernel_rfl) (fun I hI' fw hf hback => ?_)
            simp only [List.take_succ_cons, List.take_zero, List.drop_succ_cons, List.drop_zero]
            have c0 : ∀ j, (fw j).cell? ⟨gm, k, none⟩ = some (.int .u64 x) := fun j => ((hf j).cell (p := ⟨gm, k, none⟩) hgs).trans hck
            repeat (first | go_big_quiet_step (first | fail | (go_at_call 52; with_reducible exact calls_fam hf hback (AT.out _ (rd_here hrP (hf _))))))
            refine wpQuiet_nil ?_
            intro w6 hb6
            clear hsh hsm hk1
            have hoP6 := hoP.keep hb6
            have hoE6 := hoE.keep hb6
            have hbb6 := hb5.trans (hb6.mono (HSS.out _ hb5))
            clear c0 hf hback hb6 hck hrP hoP hoE hb5 AT
            obtain ⟨hgs6, hcP6, hfP6⟩ := own_cells hoP6 (Nat.succ_pos n)
            have co := hcP6 k hlt
            have zo := hfP6 k
            have hoP7 := hoP6.set_ hlt z
            rw [HP.out] at hoP7
            have hoE7 := own_far (w' := w6.setCell ⟨gm, k, none⟩ (.int .u64 z)) hoE6 (fun g' hA => heap_setCell_other w6 _ _ _ (by subst hA; exact (own_ne hoP6 hoE6 tne).symm))
            have hb7 := hbb6.setCell (p := ⟨gm, k, none⟩) (Nat.le_trans (HSS.out _ hb) hgm0) (.int .u64 z)
            clear hcP6 hfP6 hoP6 hoE6 hbb6
            go_wp2
            go_roundg j
            case measure => exact Nat.lt_succ_self _
            case rel => exact ⟨k + 1, by rw [Nat.add_assoc, Nat.add_comm 1 j]; exact hk, by first | rfl | rw [HK2.out], hoP7, hoE7, hb7⟩
          · obtain rfl : gk = 0 := by omega
            obtain rfl : k = n + 1 := by omega
            have eP : fill (n + 1) (shw M 32 576460752303423488) (nth M) (n + 1) = tab (n + 1) (shw M 32 576460752303423488) := fill_all_ _ _ _
            rw [eP] at hoP
            have hnum := shift_num HM.out.2.1 (B := 32) (C := 576460752303423488) (by decide) (by decide)
            rw [HM.out.2.2] at hnum
            have HR : Keep (Words (tab (n + 1) (shw M 32 576460752303423488)) ∧ (tab (n + 1) (shw M 32 576460752303423488)).length = n + 1 ∧ num (tab (n + 1) (shw M 32 576460752303423488)) < wp n ∧ num (tab (n + 1) (shw M 32 576460752303423488)) < 2 ^ g ∧ m + 1 + g ≤ 64 * n ∧ (D ++ [dgt]) ++ digs 16 g (num (tab (n + 1) (shw M 32 576460752303423488))) = res) := ⟨words_of _ (fun i hi => by
              rw [tab_len] at hi
              rw [tab_nth _ hi]
              exact shw_word HM.out.1 (by decide) (by decide) (by decide) i), tab_len _ _, by rw [hnum]; exact NX.out.2.2.2, by rw [hnum]; exact NX.out.1, NX.out.2.1, by rw [hnum, List.append_assoc]; exact HDS.out⟩
            clear eP hnum
            go_wp2
            go_roundg g
            case measure => omega
            case rel => exact ⟨_, _, _, _, _, _, _, rfl, rfl, hoP, hoE, HR, hb5⟩

set_option maxRecDepth 100000 in
set_option maxHeartbeats 4000000 in
theorem refWindows_6 (A : Option Addr) (n c : Nat) (l : List Int) (B : Nat) (w : World) (hr : Rd w B A n .u64 l) (hwl : Words l) (hB : B ≤ w.heap.size) (hn : n ≤ 10000) : Calls Try.prog 31 #[.slice A n c, .int .i64 6] w fun e w' => ∃ A' m c', e = .returned (.tuple #[.slice A' m c', .int .i64 0]) ∧ Own w' w.heap.size 3 .i64 A' m c' (digs 32 (64 * n) (num l)) ∧ Below w.heap.size w w' := by
  obtain ⟨S, hS⟩ : ∃ S, w.heap.size = S := ⟨_, rfl⟩
  have hb0 : Below S w w := Below.refl _ _
  have HSS : Keep (∀ x : World, Below S w x → S ≤ x.heap.size) := ⟨fun x hb => by have := hb.size; omega⟩
  have HRD : Keep (∀ x : World, Below S w x → Rd x x.heap.size A n .u64 l) := ⟨fun x hb => (hr.keep hb (by omega)).more (Nat.le_trans hB (Nat.le_trans (by omega) (HSS.out _ hb)))⟩
  have LN : Keep (l.length = n) := ⟨hr.len⟩
  have HN : Keep (n ≤ 10000) := ⟨hn⟩
  obtain ⟨res, hres⟩ : ∃ o, digs 32 (64 * n) (num l) = o := ⟨_, rfl⟩
  have H0 : Keep (Words (l ++ [0]) ∧ (l ++ [0]).length = n + 1 ∧ num (l ++ [0]) < wp n ∧ num (l ++ [0]) < 2 ^ (64 * n) ∧ 0 + 64 * n ≤ 64 * n ∧ [] ++ digs 32 (64 * n) (num (l ++ [0])) = res) := ⟨by
    have e : num (l ++ [0]) = num l := by rw [num_append]; simp [num, low, nth]
    have hb := num_bounds hwl
    rw [LN.out] at hb
    refine ⟨words_append hwl (words_of _ (by decide)), by rw [List.length_append, LN.out]; rfl, by rw [e]; exact hb.2, by rw [e, ← tp, tp_wp]; exact hb.2, by omega, by rw [e]; exact hres⟩⟩
  rw [hres, hS]
  clear hr hwl hB hn hres
  go_enter Try.func31, Try.ntmps31
  go_wp2_with (first
    | (refine append_abs (by rfl) (.tmp 22) (.tmp 23) 39 (by rfl) S 23 .u64 8 Try.underlying39 u64Elem A1 n c1 l (by rfl) (ho1.keep ((Below.refl _ _).alloc (Nat.le_refl _) _)) (w1.heap.size + 1) (some ⟨w1.heap.size, 0, none⟩) 1 1 [0] (by rfl) (Rd.of_has (Has.new w1 23 (vals .u64 [0])) (by omega) (by rfl) (by simp)) (n + 1) (by rfl) (l ++ [0]) (by rfl) (by have := HN.out; omega) (by have := HN.out; unfold maxLen; omega) (by have := HSS.out _ hb1; simp; omega) ?_
       intro A2 c2 w2 ho2 hbx
       have hb2 := (hb1.alloc (HSS.out _ hb1) (.cells (vals .u64 [0]) 23)).trans hbx
       clear hbx hb1 ho1)
    | (refine append_abs (by rfl) (.tmp 20) (.tmp 21) 39 (by rfl) S 23 .u64 8 Try.underlying39 u64Elem (some ⟨S, 0, none⟩) 0 0 [] (by rfl) (Own.of_has (Has.new' w hS.symm 23 (vals .u64 [])) (Nat.le_refl _) (Nat.zero_le _)) (S + 1) A n c l (by rfl) (((HRD.out _ hb0).keep ((Below.refl w.heap.size w).alloc (Nat.le_refl _) _) (Nat.le_refl _)).more (by omega)) n (Nat.zero_add n) l (by rfl) (by have := HN.out; omega) (by have := HN.out; unfold maxLen; omega) (by simp; omega) ?_
       intro A1 c1 w1 ho1 hbx
       have hb1 := (hb0.alloc (by omega) (.cells (vals .u64 []) 23)).trans hbx
       clear hbx))
  go_loopg [6, 7] (64 * n) (fun (gk : Nat) vl vo wr => ∃ (A6 : Option Addr) (c6 : Nat) (L : List Int) (A7 : Option Addr) (m c7 : Nat) (D : List Int), vl = .slice A6 (n + 1) c6 ∧ vo = .slice A7 m c7 ∧ Own wr S 23 .u64 A6 (n + 1) c6 L ∧ Own wr S 3 .i64 A7 m c7 D ∧ Keep (Words L ∧ L.length = n + 1 ∧ num L < wp n ∧ num L < 2 ^ gk ∧ m + gk ≤ 64 * n ∧ D ++ digs 32 gk (num L) = res) ∧ Below S w wr)
  case atStart => exact ⟨A2, c2, l ++ [0], none, 0, 0, [], rfl, rfl, ho2, own_none _ _ _ _, H0, hb2⟩
  case round =>
    clear ho2 hb2
    obtain ⟨A6, c6, L, A7, m, c7, D, rfl, rfl, hoL, hoD, HI, hb⟩ := hrel
    have hv0 := (num_bounds HI.out.1).1
    have hrL := hoL.rd
    by_cases hz : num L = 0
    · have CM : Keep (∀ y : World, Rd y y.heap.size A6 (n + 1) .u64 L → Calls Try.prog 45 #[.slice A6 (n + 1) c6, .slice none 0 0] y fun e y' => e = .returned (.int .i64 0) ∧ y = y') := ⟨fun y h => by
        have h1 := refCmp_c A6 (n + 1) c6 L none 0 0 [] y.heap.size y h HI.out.1 ⟨rfl, fun h => absurd h (by omega)⟩ (words_of _ (by intro i hi; simp at hi)) (by have := HN.out; omega) (by omega)
        have e : cmpL L [] = 0 := by rw [cmpL, num_nil, if_neg (by omega), if_pos hz]
        rw [e] at h1
        exact h1⟩
      have FIN : Keep (D = res) := ⟨by have := HI.out.2.2.2.2.2; rw [hz, digs_zero, List.append_nil] at this; exact this⟩
      clear hz hv0
      go_wp2_with (go_at_call 45; refine (CM.out _ hrL).mono ?_; rintro e w' ⟨rfl, rfl⟩)
      go_ret2
      exact ⟨A7, m, c7, rfl, by rw [← FIN.out]; exact hoD, hb⟩
    · obtain ⟨g, rfl⟩ : ∃ g, gk = g + 1 := ⟨gk - 1, by
        rcases gk with _ | g
        · have := HI.out.2.2.2.1; simp at this; omega
        · omega⟩
      have CM : Keep (∀ y : World, Rd y y.heap.size A6 (n + 1) .u64 L → Calls Try.prog 45 #[.slice A6 (n + 1) c6, .slice none 0 0] y fun e y' => e = .returned (.int .i64 1) ∧ y = y') := ⟨fun y h => by
        have h1 := refCmp_c A6 (n + 1) c6 L none 0 0 [] y.heap.size y h HI.out.1 ⟨rfl, fun h => absurd h (by omega)⟩ (words_of _ (by intro i hi; simp at hi)) (by have := HN.out; omega) (by omega)
        have e : cmpL L [] = 1 := by rw [cmpL, num_nil, if_neg (by omega), if_neg hz]
        rw [e] at h1
        exact h1⟩
      obtain ⟨gl, rfl, hgl0, hgl1, hgn, hcl, hfl⟩ := hoL.at_ (by omega)
      obtain ⟨x0, hx0⟩ : ∃ x, nth L 0 = x := ⟨_, rfl⟩
      have hc0 := hcl 0 (by omega)
      rw [hx0] at hc0
      obtain ⟨d0, hd0⟩ : ∃ d, x0 % 64 = d := ⟨_, rfl⟩
      have bd0 : 0 ≤ d0 ∧ d0 < 64 := by omega
      have hmod : num L % (2 * 32) = d0 := by rw [← hd0, ← hx0]; exact num_mod_head (B := 64) (C := 288230376151711744) (by decide)
      have hdig : dg 32 (num L) = if 32 < d0 then d0 - 64 else d0 := by unfold dg; rw [hmod]; rfl
      have hdb := dg_bounds (H := 32) (v := num L) (by decide)
      have hnx := nx_eq (H := 32) (v := num L) (by decide)
      have hnl := nx_less (H := 32) (v := num L) (by decide) hv0 HI.out.2.2.2.1
      have hn0 := nx_nonneg (H := 32) (v := num L) (by decide) hv0
      have hds : D ++ dg 32 (num L) :: digs 32 g (nx 32 (num L)) = res := by rw [← digs_step hz]; exact HI.out.2.2.2.2.2
      have NX : Keep (nx 32 (num L) < 2 ^ g ∧ m + 1 + g ≤ 64 * n ∧ 0 ≤ nx 32 (num L) ∧ nx 32 (num L) < wp n) := ⟨hnl, by have := HI.out.2.2.2.2.1; omega, hn0, by have := HI.out.2.2.1; omega⟩
      by_cases hbig : 32 < d0
      · have htm : x0.tmod 64 = d0 := by rw [Int.tmod_eq_emod_of_nonneg (by rw [← hx0]; exact (HI.out.1 0).1)]; exact hd0
        have hwd : wrap64 d0 = d0 := by unfold wrap64; omega
        obtain ⟨dgt, hdg⟩ : ∃ d, d0 - 64 = d := ⟨_, rfl⟩
        obtain ⟨dd, hdd⟩ : ∃ d, -dgt = d := ⟨_, rfl⟩
        rw [if_pos hbig, hdg] at hdig
        have bdd : 0 ≤ dd ∧ dd ≤ 256 := by omega
        have e1 : wrap64 (d0 - 64) = dgt := by rw [hdg]; unfold wrap64; omega
        have e2 : wrap64 (-dgt) = dd := by rw [hdd]; unfold wrap64; omega
        have e3 : IntKind.u64.wrap dd = dd := by rw [IntKind.wrap_u64]; omega
        obtain ⟨M, hM⟩ : ∃ o, addL L [dd] = o := ⟨_, rfl⟩
        have n1 : num [dd] = dd := by simp [num, low, nth, wp]
        have hnM : num M = 2 * 32 * nx 32 (num L) := by
          have hr := wp_room n
          have hlt := HI.out.2.2.1
          rw [← hM, addL, HI.out.2.1, show max (n + 1) [dd].length = n + 1 from Nat.max_eq_left (by simp), n1, num_wd_of (by omega) (by omega)]
          omega
        have HM : Keep (Words M ∧ M.length = n + 1 ∧ num M / 64 = nx 32 (num L)) := ⟨by rw [← hM]; exact wd_words _ _, by rw [← hM, addL, wd_len, HI.out.2.1]; exact Nat.max_eq_left (by simp), by rw [hnM]; exact Int.mul_ediv_cancel_left _ (by decide)⟩
        have HDS : Keep (D ++ dgt :: digs 32 g (nx 32 (num L)) = res) := ⟨by rw [← hdig]; exact hds⟩
        have PA : Keep (∀ (y : World) (g' : Nat), Rd y y.heap.size (some ⟨gl, 0, none⟩) (n + 1) .u64 L → Has y g' 23 (vals .u64 [dd]) → Calls Try.prog 51 #[.slice (some ⟨gl, 0, none⟩) (n + 1) c6, .slice (some ⟨g', 0, none⟩) 1 1] y fun e y' => ∃ A9 c9, e = .returned (.tuple #[.slice A9 (n + 1) c9, .int .u64 (addC L [dd])]) ∧ Own y' y.heap.size 23 .u64 A9 (n + 1) c9 M ∧ Below y.heap.size y y') := ⟨fun y g' h h' => by
          have h1 := refAdd_c (some ⟨gl, 0, none⟩) (n + 1) c6 L (some ⟨g', 0, none⟩) 1 1 [dd] y.heap.size y h HI.out.1 (Rd.of_has h' h'.lt (by rfl) (by simp)) (words_one (by omega) (by omega)) (Nat.le_refl _) (by have := HN.out; omega) (by omega)
          rw [hM, show max (n + 1) 1 = n + 1 from Nat.max_eq_left (by omega)] at h1
          exact h1⟩
        obtain ⟨cc, hcc⟩ : ∃ o, addC L [dd] = o := ⟨_, rfl⟩
        rw [hcc] at PA
        clear hnx hnl hn0 hdb hcl hmod hds hdig hv0 hz hd0 hx0 hM n1 hnM hcc
        go_wp2_with (first
          | (refine append_abs2 (by rfl) (.tmp 66) (.tmp 68) 40 (by rfl) S 3 .i64 8 Try.underlying40 i64Elem A7 m c7 D (by rfl) (hoD20.keep ((Below.refl _ _).alloc (Nat.le_refl _) _)) (w20.heap.size + 1) (some ⟨w20.heap.size, 0, none⟩) 1 1 [dgt] (by rfl) (Rd.of_has (Has.new w20 3 (vals .i64 [dgt])) (by omega) (by rfl) (by simp)) (m + 1) (by rfl) (D ++ [dgt]) (by rfl) (by have := NX.out.2.1; have := HN.out; omega) (by have := NX.out.2.1; have := HN.out; unfold maxLen; omega) (by have := HSS.out _ hb20; simp; omega) ?_
             intro A8 c8 w21 hoE21 hbx hsame
             have hal := (Below.refl w20.heap.size w20).alloc (Nat.le_refl _) (.cells (vals .i64 [dgt]) 3)
             have hoM21 := own_base (own_far (hoM20.keep hal) (fun g' hA => by
               cases hA
               exact hsame _ (by simp; omega) (fun g2 hA2 => by subst hA2; exact own_ne hoM20 hoD20 tne))) (HSS.out _ hb)
             have hb21 := (hb20.alloc (HSS.out _ hb20) (.cells (vals .i64 [dgt]) 3)).trans hbx
             clear hbx hsame hal hoM20 hoD20 hb20)
          | (go_at_call 51
             have hal := (Below.refl wr.heap.size wr).alloc (Nat.le_refl _) (.cells (vals .u64 [dd]) 23)
             refine (PA.out _ wr.heap.size (rd_here hrL hal) (Has.new _ _ _)).mono ?_
             rintro e w20 ⟨A9, c9, rfl, hoM20', hq⟩
             have hbe := hal.trans (hq.mono hal.size)
             have hoM20 := own_base (b' := wr.heap.size) hoM20' hal.size
             obtain ⟨gm, rfl, hgm0, hgm1, hgm2, -, -⟩ := hoM20.at_ (by omega)
             have hoD20 := hoD.keep hbe
             have hb20 := hb.trans (hbe.mono (HSS.out _ hb))
             clear hal hq hbe hoM20' hoL hoD hrL)
          | (go_at_call 45; refine (CM.out _ hrL).mono ?_; rintro e w' ⟨rfl, rfl⟩))
        go_loopg [13] (n + 1) (fun (gk : Nat) vi wr => ∃ k : Nat, k + gk = n + 1 ∧ vi = .int .i64 k ∧ Own wr S 23 .u64 (some ⟨gm, 0, none⟩) (n + 1) c9 (fill (n + 1) (shw M 64 288230376151711744) (nth M) k) ∧ Own wr S 3 .i64 A8 (m + 1) c8 (D ++ [dgt]) ∧ Below S w wr)
        case atStart => exact ⟨0, by omega, rfl, by rw [fill_zero _ _ _ HM.out.2.1]; exact hoM21, hoE21, hb21⟩
        case round =>
          clear hoM21 hoE21 hb21
          obtain ⟨k, hk, rfl, hoP, hoE, hb5⟩ := hrel
          by_cases hlt : k < n + 1
          · obtain ⟨j, rfl⟩ : ∃ j, gk = j + 1 := ⟨gk - 1, by omega⟩
            obtain ⟨x, hx⟩ : ∃ x, nth M k = x := ⟨_, rfl⟩
            obtain ⟨y, hy⟩ : ∃ y, nth M (k + 1) = y := ⟨_, rfl⟩
            have bx := HM.out.1 k
            have by' := HM.out.1 (k + 1)
            rw [hx] at bx
            rw [hy] at by'
            have hcx : nth (fill (n + 1) (shw M 64 288230376151711744) (nth M) k) k = x := by rw [fill_nth _ _ _ hlt, if_neg (by omega)]; exact hx
            have hcy : nth (fill (n + 1) (shw M 64 288230376151711744) (nth M) k) (k + 1) = y := by
              rcases Nat.lt_or_ge (k + 1) (n + 1) with h | h
              · rw [fill_nth _ _ _ h, if_neg (by omega)]; exact hy
              · rw [nth_ge (by rw [fill_len]; exact h), ← hy, nth_ge (by rw [HM.out.2.1]; exact h)]
            obtain ⟨z, hz⟩ : ∃ z, shw M 64 288230376151711744 k = z := ⟨_, rfl⟩
            have hzz : x / 64 + y % 64 * 288230376151711744 = z := by rw [← hz, ← hx, ← hy]; rfl
            have bz := shw_word HM.out.1 (B := 64) (C := 288230376151711744) (by decide) (by decide) (by decide) k
            rw [hz] at bz
            obtain ⟨P, hP⟩ : ∃ P, fill (n + 1) (shw M 64 288230376151711744) (nth M) k = P := ⟨_, rfl⟩
            rw [hP] at hoP hcx hcy
            have HP : Keep (P.set k z = fill (n + 1) (shw M 64 288230376151711744) (nth M) (k + 1)) := ⟨by rw [← hP]; exact fill_set _ _ hlt hz.symm⟩
            obtain ⟨hgs, hcP, -⟩ := own_cells hoP (Nat.succ_pos n)
            have hck := hcP k hlt
            rw [hcx] at hck
            have AT : Keep (∀ y' : World, Rd y' y'.heap.size (some ⟨gm, 0, none⟩) (n + 1) .u64 P → Calls Try.prog 52 #[.slice (some ⟨gm, 0, none⟩) (n + 1) c9, .int .i64 ((k : Int) + 1)] y' fun e y2 => e = .returned (.int .u64 y) ∧ Below y'.heap.size y' y2) := ⟨fun y' h => by
              have h1 := at_c (some ⟨gm, 0, none⟩) (n + 1) c9 P y'.heap.size (k + 1) y' h
              rw [hcy] at h1
              exact h1.mono fun e x' ⟨he, hx⟩ => ⟨he, hx ▸ Below.refl _ _⟩⟩
            have hrP := hoP.rd
            have hk1 : wrap64 ((k : Int) + 1) = (k : Int) + 1 := by have := HN.out; unfold wrap64; omega
            have HK2 : Keep (wrap64 ((k : Int) + 1) = ((k + 1 : Nat) : Int)) := ⟨hk1⟩
            obtain ⟨yc, hyc⟩ : ∃ v, y % 64 * 288230376151711744 = v := ⟨_, rfl⟩
            have hsh : IntKind.u64.wrap (y * 288230376151711744) = yc := by rw [IntKind.wrap_u64]; omega
            have hsm : IntKind.u64.wrap (x / 64 + yc) = z := by rw [IntKind.wrap_u64]; omega
            clear hzz hyc bx by' bz
            clear hz hx hy hP hcx hcy hcP
            go_wp2
            refine wp_fam 19 (by kernel_rfl) (by kernel_rfl) (fun I hI' fw hf hback => ?_)
            simp only [List.take_succ_cons, List.take_zero, List.drop_succ_cons, List.drop_zero]
            have c0 : ∀ j, (fw j).cell? ⟨gm, k, none⟩ = some (.int .u64 x) := fun j => ((hf j).cell (p := ⟨gm, k, none⟩) hgs).trans hck
            repeat (first | go_big_quiet_step (first | fail | (go_at_call 52; with_reducible exact calls_fam hf hback (AT.out _ (rd_here hrP (hf _))))))
            refine wpQuiet_nil ?_
            intro w6 hb6
            clear hsh hsm hk1
            have hoP6 := hoP.keep hb6
            have hoE6 := hoE.keep hb6
            have hbb6 := hb5.trans (hb6.mono (HSS.out _ hb5))
            clear c0 hf hback hb6 hck hrP hoP hoE hb5 AT
            obtain ⟨hgs6, hcP6, hfP6⟩ := own_cells hoP6 (Nat.succ_pos n)
            have co := hcP6 k hlt
            have zo := hfP6 k
            have hoP7 := hoP6.set_ hlt z
            rw [HP.out] at hoP7
            have hoE7 := own_far (w' := w6.setCell ⟨gm, k, none⟩ (.int .u64 z)) hoE6 (fun g' hA => heap_setCell_other w6 _ _ _ (by subst hA; exact (own_ne hoP6 hoE6 tne).symm))
            have hb7 := hbb6.setCell (p := ⟨gm, k, none⟩) (Nat.le_trans (HSS.out _ hb) hgm0) (.int .u64 z)
            clear hcP6 hfP6 hoP6 hoE6 hbb6
            go_wp2
            go_roundg j
            case measure => exact Nat.lt_succ_self _
            case rel => exact ⟨k + 1, by rw [Nat.add_assoc, Nat.add_comm 1 j]; exact hk, by first | rfl | rw [HK2.out], hoP7, hoE7, hb7⟩
          · obtain rfl : gk = 0 := by omega
            obtain rfl : k = n + 1 := by omega
            have eP : fill (n + 1) (shw M 64 288230376151711744) (nth M) (n + 1) = tab (n + 1) (shw M 64 288230376151711744) := fill_all_ _ _ _
            rw [eP] at hoP
            have hnum := shift_num HM.out.2.1 (B := 64) (C := 288230376151711744) (by decide) (by decide)
            rw [HM.out.2.2] at hnum
            have HR : Keep (Words (tab (n + 1) (shw M 64 288230376151711744)) ∧ (tab (n + 1) (shw M 64 288230376151711744)).length = n + 1 ∧ num (tab (n + 1) (shw M 64 288230376151711744)) < wp n ∧ num (tab (n + 1) (shw M 64 288230376151711744)) < 2 ^ g ∧ m + 1 + g ≤ 64 * n ∧ (D ++ [dgt]) ++ digs 32 g (num (tab (n + 1) (shw M 64 288230376151711744))) = res) := ⟨words_of _ (fun i hi => by
              rw [tab_len] at hi
              rw [tab_nth _ hi]
              exact shw_word HM.out.1 (by decide) (by decide) (by decide) i), tab_len _ _, by rw [hnum]; exact NX.out.2.2.2, by rw [hnum]; exact NX.out.1, NX.out.2.1, by rw [hnum, List.append_assoc]; exact HDS.out⟩
            clear eP hnum
            go_wp2
            go_roundg g
            case measure => omega
            case rel => exact ⟨_, _, _, _, _, _, _, rfl, rfl, hoP, hoE, HR, hb5⟩
      · have htm : x0.tmod 64 = d0 := by rw [Int.tmod_eq_emod_of_nonneg (by rw [← hx0]; exact (HI.out.1 0).1)]; exact hd0
        have hwd : wrap64 d0 = d0 := by unfold wrap64; omega
        obtain ⟨dgt, hdg⟩ : ∃ d, d0 = d := ⟨_, rfl⟩
        obtain ⟨dd, hdd⟩ : ∃ d, dgt = d := ⟨_, rfl⟩
        rw [if_neg hbig, hdg] at hdig
        have bdd : 0 ≤ dd ∧ dd ≤ 256 := by omega
        have e4 : dd = d0 := by omega
        have e3 : IntKind.u64.wrap d0 = d0 := by rw [IntKind.wrap_u64]; omega
        obtain ⟨M, hM⟩ : ∃ o, subL L [dd] = o := ⟨_, rfl⟩
        have n1 : num [dd] = dd := by simp [num, low, nth, wp]
        have hnM : num M = 2 * 32 * nx 32 (num L) := by
          have hr := wp_room n
          have hlt := HI.out.2.2.1
          rw [← hM, subL, HI.out.2.1, show max (n + 1) [dd].length = n + 1 from Nat.max_eq_left (by simp), n1, num_wd_of (by omega) (by omega)]
          omega
        have HM : Keep (Words M ∧ M.length = n + 1 ∧ num M / 64 = nx 32 (num L)) := ⟨by rw [← hM]; exact wd_words _ _, by rw [← hM, subL, wd_len, HI.out.2.1]; exact Nat.max_eq_left (by simp), by rw [hnM]; exact Int.mul_ediv_cancel_left _ (by decide)⟩
        have HDS : Keep (D ++ dgt :: digs 32 g (nx 32 (num L)) = res) := ⟨by rw [← hdig]; exact hds⟩
        have PA : Keep (∀ (y : World) (g' : Nat), Rd y y.heap.size (some ⟨gl, 0, none⟩) (n + 1) .u64 L → Has y g' 23 (vals .u64 [dd]) → Calls Try.prog 40 #[.slice (some ⟨gl, 0, none⟩) (n + 1) c6, .slice (some ⟨g', 0, none⟩) 1 1] y fun e y' => ∃ A9 c9, e = .returned (.tuple #[.slice A9 (n + 1) c9, .int .u64 (subC L [dd])]) ∧ Own y' y.heap.size 23 .u64 A9 (n + 1) c9 M ∧ Below y.heap.size y y') := ⟨fun y g' h h' => by
          have h1 := refSub_c (some ⟨gl, 0, none⟩) (n + 1) c6 L (some ⟨g', 0, none⟩) 1 1 [dd] y.heap.size y h HI.out.1 (Rd.of_has h' h'.lt (by rfl) (by simp)) (words_one (by omega) (by omega)) (Nat.le_refl _) (by have := HN.out; omega) (by omega)
          rw [hM, show max (n + 1) 1 = n + 1 from Nat.max_eq_left (by omega)] at h1
          exact h1⟩
        obtain ⟨cc, hcc⟩ : ∃ o, subC L [dd] = o := ⟨_, rfl⟩
        rw [hcc] at PA
        clear hnx hnl hn0 hdb hcl hmod hds hdig hv0 hz hd0 hx0 hM n1 hnM hcc
        rw [e4] at PA
        clear e4 hdd bdd
        have HDG : dgt = d0 := hdg.symm
        subst HDG
        go_wp2_with (first
          | (refine append_abs2 (by rfl) (.tmp 66) (.tmp 68) 40 (by rfl) S 3 .i64 8 Try.underlying40 i64Elem A7 m c7 D (by rfl) (hoD20.keep ((Below.refl _ _).alloc (Nat.le_refl _) _)) (w20.heap.size + 1) (some ⟨w20.heap.size, 0, none⟩) 1 1 [dgt] (by rfl) (Rd.of_has (Has.new w20 3 (vals .i64 [dgt])) (by omega) (by rfl) (by simp)) (m + 1) (by rfl) (D ++ [dgt]) (by rfl) (by have := NX.out.2.1; have := HN.out; omega) (by have := NX.out.2.1; have := HN.out; unfold maxLen; omega) (by have := HSS.out _ hb20; simp; omega) ?_
             intro A8 c8 w21 hoE21 hbx hsame
             have hal := (Below.refl w20.heap.size w20).alloc (Nat.le_refl _) (.cells (vals .i64 [dgt]) 3)
             have hoM21 := own_base (own_far (hoM20.keep hal) (fun g' hA => by
               cases hA
               exact hsame _ (by simp; omega) (fun g2 hA2 => by subst hA2; exact own_ne hoM20 hoD20 tne))) (HSS.out _ hb)
             have hb21 := (hb20.alloc (HSS.out _ hb20) (.cells (vals .i64 [dgt]) 3)).trans hbx
             clear hbx hsame hal hoM20 hoD20 hb20)
          | (go_at_call 40
             have hal := (Below.refl wr.heap.size wr).alloc (Nat.le_refl _) (.cells (vals .u64 [dgt]) 23)
             refine (PA.out _ wr.heap.size (rd_here hrL hal) (Has.new _ _ _)).mono ?_
             rintro e w20 ⟨A9, c9, rfl, hoM20', hq⟩
             have hbe := hal.trans (hq.mono hal.size)
             have hoM20 := own_base (b' := wr.heap.size) hoM20' hal.size
             obtain ⟨gm, rfl, hgm0, hgm1, hgm2, -, -⟩ := hoM20.at_ (by omega)
             have hoD20 := hoD.keep hbe
             have hb20 := hb.trans (hbe.mono (HSS.out _ hb))
             clear hal hq hbe hoM20' hoL hoD hrL)
          | (go_at_call 45; refine (CM.out _ hrL).mono ?_; rintro e w' ⟨rfl, rfl⟩))
        go_loopg [13] (n + 1) (fun (gk : Nat) vi wr => ∃ k : Nat, k + gk = n + 1 ∧ vi = .int .i64 k ∧ Own wr S 23 .u64 (some ⟨gm, 0, none⟩) (n + 1) c9 (fill (n + 1) (shw M 64 288230376151711744) (nth M) k) ∧ Own wr S 3 .i64 A8 (m + 1) c8 (D ++ [dgt]) ∧ Below S w wr)
        case atStart => exact ⟨0, by omega, rfl, by rw [fill_zero _ _ _ HM.out.2.1]; exact hoM21, hoE21, hb21⟩
        case round =>
          clear hoM21 hoE21 hb21
          obtain ⟨k, hk, rfl, hoP, hoE, hb5⟩ := hrel
          by_cases hlt : k < n + 1
          · obtain ⟨j, rfl⟩ : ∃ j, gk = j + 1 := ⟨gk - 1, by omega⟩
            obtain ⟨x, hx⟩ : ∃ x, nth M k = x := ⟨_, rfl⟩
            obtain ⟨y, hy⟩ : ∃ y, nth M (k + 1) = y := ⟨_, rfl⟩
            have bx := HM.out.1 k
            have by' := HM.out.1 (k + 1)
            rw [hx] at bx
            rw [hy] at by'
            have hcx : nth (fill (n + 1) (shw M 64 288230376151711744) (nth M) k) k = x := by rw [fill_nth _ _ _ hlt, if_neg (by omega)]; exact hx
            have hcy : nth (fill (n + 1) (shw M 64 288230376151711744) (nth M) k) (k + 1) = y := by
              rcases Nat.lt_or_ge (k + 1) (n + 1) with h | h
              · rw [fill_nth _ _ _ h, if_neg (by omega)]; exact hy
              · rw [nth_ge (by rw [fill_len]; exact h), ← hy, nth_ge (by rw [HM.out.2.1]; exact h)]
            obtain ⟨z, hz⟩ : ∃ z, shw M 64 288230376151711744 k = z := ⟨_, rfl⟩
            have hzz : x / 64 + y % 64 * 288230376151711744 = z := by rw [← hz, ← hx, ← hy]; rfl
            have bz := shw_word HM.out.1 (B := 64) (C := 288230376151711744) (by decide) (by decide) (by decide) k
            rw [hz] at bz
            obtain ⟨P, hP⟩ : ∃ P, fill (n + 1) (shw M 64 288230376151711744) (nth M) k = P := ⟨_, rfl⟩
            rw [hP] at hoP hcx hcy
            have HP : Keep (P.set k z = fill (n + 1) (shw M 64 288230376151711744) (nth M) (k + 1)) := ⟨by rw [← hP]; exact fill_set _ _ hlt hz.symm⟩
            obtain ⟨hgs, hcP, -⟩ := own_cells hoP (Nat.succ_pos n)
            have hck := hcP k hlt
            rw [hcx] at hck
            have AT : Keep (∀ y' : World, Rd y' y'.heap.size (some ⟨gm, 0, none⟩) (n + 1) .u64 P → Calls Try.prog 52 #[.slice (some ⟨gm, 0, none⟩) (n + 1) c9, .int .i64 ((k : Int) + 1)] y' fun e y2 => e = .returned (.int .u64 y) ∧ Below y'.heap.size y' y2) := ⟨fun y' h => by
              have h1 := at_c (some ⟨gm, 0, none⟩) (n + 1) c9 P y'.heap.size (k + 1) y' h
              rw [hcy] at h1
              exact h1.mono fun e x' ⟨he, hx⟩ => ⟨he, hx ▸ Below.refl _ _⟩⟩
            have hrP := hoP.rd
            have hk1 : wrap64 ((k : Int) + 1) = (k : Int) + 1 := by have := HN.out; unfold wrap64; omega
            have HK2 : Keep (wrap64 ((k : Int) + 1) = ((k + 1 : Nat) : Int)) := ⟨hk1⟩
            obtain ⟨yc, hyc⟩ : ∃ v, y % 64 * 288230376151711744 = v := ⟨_, rfl⟩
            have hsh : IntKind.u64.wrap (y * 288230376151711744) = yc := by rw [IntKind.wrap_u64]; omega
            have hsm : IntKind.u64.wrap (x / 64 + yc) = z := by rw [IntKind.wrap_u64]; omega
            clear hzz hyc bx by' bz
            clear hz hx hy hP hcx hcy hcP
            go_wp2
            refine wp_fam 19 (by kernel_rfl) (by kernel_rfl) (fun I hI' fw hf hback => ?_)
            simp only [List.take_succ_cons, List.take_zero, List.drop_succ_cons, List.drop_zero]
            have c0 : ∀ j, (fw j).cell? ⟨gm, k, none⟩ = some (.int .u64 x) := fun j => ((hf j).cell (p := ⟨gm, k, none⟩) hgs).trans hck
            repeat (first | go_big_quiet_step (first | fail | (go_at_call 52; with_reducible exact calls_fam hf hback (AT.out _ (rd_here hrP (hf _))))))
            refine wpQuiet_nil ?_
            intro w6 hb6
            clear hsh hsm hk1
            have hoP6 := hoP.keep hb6
            have hoE6 := hoE.keep hb6
            have hbb6 := hb5.trans (hb6.mono (HSS.out _ hb5))
            clear c0 hf hback hb6 hck hrP hoP hoE hb5 AT
            obtain ⟨hgs6, hcP6, hfP6⟩ := own_cells hoP6 (Nat.succ_pos n)
            have co := hcP6 k hlt
            have zo := hfP6 k
            have hoP7 := hoP6.set_ hlt z
            rw [HP.out] at hoP7
            have hoE7 := own_far (w' := w6.setCell ⟨gm, k, none⟩ (.int .u64 z)) hoE6 (fun g' hA => heap_setCell_other w6 _ _ _ (by subst hA; exact (own_ne hoP6 hoE6 tne).symm))
            have hb7 := hbb6.setCell (p := ⟨gm, k, none⟩) (Nat.le_trans (HSS.out _ hb) hgm0) (.int .u64 z)
            clear hcP6 hfP6 hoP6 hoE6 hbb6
            go_wp2
            go_roundg j
            case measure => exact Nat.lt_succ_self _
            case rel => exact ⟨k + 1, by rw [Nat.add_assoc, Nat.add_comm 1 j]; exact hk, by first | rfl | rw [HK2.out], hoP7, hoE7, hb7⟩
          · obtain rfl : gk = 0 := by omega
            obtain rfl : k = n + 1 := by omega
            have eP : fill (n + 1) (shw M 64 288230376151711744) (nth M) (n + 1) = tab (n + 1) (shw M 64 288230376151711744) := fill_all_ _ _ _
            rw [eP] at hoP
            have hnum := shift_num HM.out.2.1 (B := 64) (C := 288230376151711744) (by decide) (by decide)
            rw [HM.out.2.2] at hnum
            have HR : Keep (Words (tab (n + 1) (shw M 64 288230376151711744)) ∧ (tab (n + 1) (shw M 64 288230376151711744)).length = n + 1 ∧ num (tab (n + 1) (shw M 64 288230376151711744)) < wp n ∧ num (tab (n + 1) (shw M 64 288230376151711744)) < 2 ^ g ∧ m + 1 + g ≤ 64 * n ∧ (D ++ [dgt]) ++ digs 32 g (num (tab (n + 1) (shw M 64 288230376151711744))) = res) := ⟨words_of _ (fun i hi => by
              rw [tab_len] at hi
              rw [tab_nth _ hi]
              exact shw_word HM.out.1 (by decide) (by decide) (by decide) i), tab_len _ _, by rw [hnum]; exact NX.out.2.2.2, by rw [hnum]; exact NX.out.1, NX.out.2.1, by rw [hnum, List.append_assoc]; exact HDS.out⟩
            clear eP hnum
            go_wp2
            go_roundg g
            case measure => omega
            case rel => exact ⟨_, _, _, _, _, _, _, rfl, rfl, hoP, hoE, HR, hb5⟩

set_option maxRecDepth 100000 in
set_option maxHeartbeats 4000000 in
theorem refWindows_7 (A : Option Addr) (n c : Nat) (l : List Int) (B : Nat) (w : World) (hr : Rd w B A n .u64 l) (hwl : Words l) (hB : B ≤ w.heap.size) (hn : n ≤ 10000) : Calls Try.prog 31 #[.slice A n c, .int .i64 7] w fun e w' => ∃ A' m c', e = .returned (.tuple #[.slice A' m c', .int .i64 0]) ∧ Own w' w.heap.size 3 .i64 A' m c' (digs 64 (64 * n) (num l)) ∧ Below w.heap.size w w' := by
  obtain ⟨S, hS⟩ : ∃ S, w.heap.size = S := ⟨_, rfl⟩
  have hb0 : Below S w w := Below.refl _ _
  have HSS : Keep (∀ x : World, Below S w x → S ≤ x.heap.size) := ⟨fun x hb => by have := hb.size; omega⟩
  have HRD : Keep (∀ x : World, Below S w x → Rd x x.heap.size A n .u64 l) := ⟨fun x hb => (hr.keep hb (by omega)).more (Nat.le_trans hB (Nat.le_trans (by omega) (HSS.out _ hb)))⟩
  have LN : Keep (l.length = n) := ⟨hr.len⟩
  have HN : Keep (n ≤ 10000) := ⟨hn⟩
  obtain ⟨res, hres⟩ : ∃ o, digs 64 (64 * n) (num l) = o := ⟨_, rfl⟩
  have H0 : Keep (Words (l ++ [0]) ∧ (l ++ [0]).length = n + 1 ∧ num (l ++ [0]) < wp n ∧ num (l ++ [0]) < 2 ^ (64 * n) ∧ 0 + 64 * n ≤ 64 * n ∧ [] ++ digs 64 (64 * n) (num (l ++ [0])) = res) := ⟨by
    have e : num (l ++ [0]) = num l := by rw [num_append]; simp [num, low, nth]
    have hb := num_bounds hwl
    rw [LN.out] at hb
    refine ⟨words_append hwl (words_of _ (by decide)), by rw [List.length_append, LN.out]; rfl, by rw [e]; exact hb.2, by rw [e, ← tp, tp_wp]; exact hb.2, by omega, by rw [e]; exact hres⟩⟩
  rw [hres, hS]
  clear hr hwl hB hn hres
  go_enter Try.func31, Try.ntmps31
  go_wp2_with (first
    | (refine append_abs (by rfl) (.tmp 22) (.tmp 23) 39 (by rfl) S 23 .u64 8 Try.underlying39 u64Elem A1 n c1 l (by rfl) (ho1.keep ((Below.refl _ _).alloc (Nat.le_refl _) _)) (w1.heap.size + 1) (some ⟨w1.heap.size, 0, none⟩) 1 1 [0] (by rfl) (Rd.of_has (Has.new w1 23 (vals .u64 [0])) (by omega) (by rfl) (by simp)) (n + 1) (by rfl) (l ++ [0]) (by rfl) (by have := HN.out; omega) (by have := HN.out; unfold maxLen; omega) (by have := HSS.out _ hb1; simp; omega) ?_
       intro A2 c2 w2 ho2 hbx
       have hb2 := (hb1.alloc (HSS.out _ hb1) (.cells (vals .u64 [0]) 23)).trans hbx
       clear hbx hb1 ho1)
    | (refine append_abs (by rfl) (.tmp 20) (.tmp 21) 39 (by rfl) S 23 .u64 8 Try.underlying39 u64Elem (some ⟨S, 0, none⟩) 0 0 [] (by rfl) (Own.of_has (Has.new' w hS.symm 23 (vals .u64 [])) (Nat.le_refl _) (Nat.zero_le _)) (S + 1) A n c l (by rfl) (((HRD.out _ hb0).keep ((Below.refl w.heap.size w).alloc (Nat.le_refl _) _) (Nat.le_refl _)).more (by omega)) n (Nat.zero_add n) l (by rfl) (by have := HN.out; omega) (by have := HN.out; unfold maxLen; omega) (by simp; omega) ?_
       intro A1 c1 w1 ho1 hbx
       have hb1 := (hb0.alloc (by omega) (.cells (vals .u64 []) 23)).trans hbx
       clear hbx))
  go_loopg [6, 7] (64 * n) (fun (gk : Nat) vl vo wr => ∃ (A6 : Option Addr) (c6 : Nat) (L : List Int) (A7 : Option Addr) (m c7 : Nat) (D : List Int), vl = .slice A6 (n + 1) c6 ∧ vo = .slice A7 m c7 ∧ Own wr S 23 .u64 A6 (n + 1) c6 L ∧ Own wr S 3 .i64 A7 m c7 D ∧ Keep (Words L ∧ L.length = n + 1 ∧ num L < wp n ∧ num L < 2 ^ gk ∧ m + gk ≤ 64 * n ∧ D ++ digs 64 gk (num L) = res) ∧ Below S w wr)
  case atStart => exact ⟨A2, c2, l ++ [0], none, 0, 0, [], rfl, rfl, ho2, own_none _ _ _ _, H0, hb2⟩
  case round =>
    clear ho2 hb2
    obtain ⟨A6, c6, L, A7, m, c7, D, rfl, rfl, hoL, hoD, HI, hb⟩ := hrel
    have hv0 := (num_bounds HI.out.1).1
    have hrL := hoL.rd
    by_cases hz : num L = 0
    · have CM : Keep (∀ y : World, Rd y y.heap.size A6 (n + 1) .u64 L → Calls Try.prog 45 #[.slice A6 (n + 1) c6, .slice none 0 0] y fun e y' => e = .returned (.int .i64 0) ∧ y = y') := ⟨fun y h => by
        have h1 := refCmp_c A6 (n + 1) c6 L none 0 0 [] y.heap.size y h HI.out.1 ⟨rfl, fun h => absurd h (by omega)⟩ (words_of _ (by intro i hi; simp at hi)) (by have := HN.out; omega) (by omega)
        have e : cmpL L [] = 0 := by rw [cmpL, num_nil, if_neg (by omega), if_pos hz]
        rw [e] at h1
        exact h1⟩
      have FIN : Keep (D = res) := ⟨by have := HI.out.2.2.2.2.2; rw [hz, digs_zero, List.append_nil] at this; exact this⟩
      clear hz hv0
      go_wp2_with (go_at_call 45; refine (CM.out _ hrL).mono ?_; rintro e w' ⟨rfl, rfl⟩)
      go_ret2
      exact ⟨A7, m, c7, rfl, by rw [← FIN.out]; exact hoD, hb⟩
    · obtain ⟨g, rfl⟩ : ∃ g, gk = g + 1 := ⟨gk - 1, by
        rcases gk with _ | g
        · have := HI.out.2.2.2.1; simp at this; omega
        · omega⟩
      have CM : Keep (∀ y : World, Rd y y.heap.size A6 (n + 1) .u64 L → Calls Try.prog 45 #[.slice A6 (n + 1) c6, .slice none 0 0] y fun e y' => e = .returned (.int .i64 1) ∧ y = y') := ⟨fun y h => by
        have h1 := refCmp_c A6 (n + 1) c6 L none 0 0 [] y.heap.size y h HI.out.1 ⟨rfl, fun h => absurd h (by omega)⟩ (words_of _ (by intro i hi; simp at hi)) (by have := HN.out; omega) (by omega)
        have e : cmpL L [] = 1 := by rw [cmpL, num_nil, if_neg (by omega), if_neg hz]
        rw [e] at h1
        exact h1⟩
      obtain ⟨gl, rfl, hgl0, hgl1, hgn, hcl, hfl⟩ := hoL.at_ (by omega)
      obtain ⟨x0, hx0⟩ : ∃ x, nth L 0 = x := ⟨_, rfl⟩
      have hc0 := hcl 0 (by omega)
      rw [hx0] at hc0
      obtain ⟨d0, hd0⟩ : ∃ d, x0 % 128 = d := ⟨_, rfl⟩
      have bd0 : 0 ≤ d0 ∧ d0 < 128 := by omega
      have hmod : num L % (2 * 64) = d0 := by rw [← hd0, ← hx0]; exact num_mod_head (B := 128) (C := 144115188075855872) (by decide)
      have hdig : dg 64 (num L) = if 64 < d0 then d0 - 128 else d0 := by unfold dg; rw [hmod]; rfl
      have hdb := dg_bounds (H := 64) (v := num L) (by decide)
      have hnx := nx_eq (H := 64) (v := num L) (by decide)
      have hnl := nx_less (H := 64) (v := num L) (by decide) hv0 HI.out.2.2.2.1
      have hn0 := nx_nonneg (H := 64) (v := num L) (by decide) hv0
      have hds : D ++ dg 64 (num L) :: digs 64 g (nx 64 (num L)) = res := by rw [← digs_step hz]; exact HI.out.2.2.2.2.2
      have NX : Keep (nx 64 (num L) < 2 ^ g ∧ m + 1 + g ≤ 64 * n ∧ 0 ≤ nx 64 (num L) ∧ nx 64 (num L) < wp n) := ⟨hnl, by have := HI.out.2.2.2.2.1; omega, hn0, by have := HI.out.2.2.1; omega⟩
      by_cases hbig : 64 < d0
      · have htm : x0.tmod 128 = d0 := by rw [Int.tmod_eq_emod_of_nonneg (by rw [← hx0]; exact (HI.out.1 0).1)]; exact hd0
        have hwd : wrap64 d0 = d0 := by unfold wrap64; omega
        obtain ⟨dgt, hdg⟩ : ∃ d, d0 - 128 = d := ⟨_, rfl⟩
        obtain ⟨dd, hdd⟩ : ∃ d, -dgt = d := ⟨_, rfl⟩
        rw [if_pos hbig, hdg] at hdig
        have bdd : 0 ≤ dd ∧ dd ≤ 256 := by omega
        have e1 : wrap64 (d0 - 128) = dgt := by rw [hdg]; unfold wrap64; omega
        have e2 : wrap64 (-dgt) = dd := by rw [hdd]; unfold wrap64; omega
        have e3 : IntKind.u64.wrap dd = dd := by rw [IntKind.wrap_u64]; omega
        obtain ⟨M, hM⟩ : ∃ o, addL L [dd] = o := ⟨_, rfl⟩
        have n1 : num [dd] = dd := by simp [num, low, nth, wp]
        have hnM : num M = 2 * 64 * nx 64 (num L) := by
          have hr := wp_room n
          have hlt := HI.out.2.2.1
          rw [← hM, addL, HI.out.2.1, show max (n + 1) [dd].length = n + 1 from Nat.max_eq_left (by simp), n1, num_wd_of (by omega) (by omega)]
          omega
        have HM : Keep (Words M ∧ M.length = n + 1 ∧ num M / 128 = nx 64 (num L)) := ⟨by rw [← hM]; exact wd_words _ _, by rw [← hM, addL, wd_len, HI.out.2.1]; exact Nat.max_eq_left (by simp), by rw [hnM]; exact Int.mul_ediv_cancel_left _ (by decide)⟩
        have HDS : Keep (D ++ dgt :: digs 64 g (nx 64 (num L)) = res) := ⟨by rw [← hdig]; exact hds⟩
        have PA : Keep (∀ (y : World) (g' : Nat), Rd y y.heap.size (some ⟨gl, 0, none⟩) (n + 1) .u64 L → Has y g' 23 (vals .u64 [dd]) → Calls Try.prog 51 #[.slice (some ⟨gl, 0, none⟩) (n + 1) c6, .slice (some ⟨g', 0, none⟩) 1 1] y fun e y' => ∃ A9 c9, e = .returned (.tuple #[.slice A9 (n + 1) c9, .int .u64 (addC L [dd])]) ∧ Own y' y.heap.size 23 .u64 A9 (n + 1) c9 M ∧ Below y.heap.size y y') := ⟨fun y g' h h' => by
          have h1 := refAdd_c (some ⟨gl, 0, none⟩) (n + 1) c6 L (some ⟨g', 0, none⟩) 1 1 [dd] y.heap.size y h HI.out.1 (Rd.of_has h' h'.lt (by rfl) (by simp)) (words_one (by omega) (by omega)) (Nat.le_refl _) (by have := HN.out; omega) (by omega)
          rw [hM, show max (n + 1) 1 = n + 1 from Nat.max_eq_left (by omega)] at h1
          exact h1⟩
        obtain ⟨cc, hcc⟩ : ∃ o, addC L [dd] = o := ⟨_, rfl⟩
        rw [hcc] at PA
        clear hnx hnl hn0 hdb hcl hmod hds hdig hv0 hz hd0 hx0 hM n1 hnM hcc
        go_wp2_with (first
          | (refine append_abs2 (by rfl) (.tmp 66) (.tmp 68) 40 (by rfl) S 3 .i64 8 Try.underlying40 i64Elem A7 m c7 D (by rfl) (hoD20.keep ((Below.refl _ _).alloc (Nat.le_refl _) _)) (w20.heap.size + 1) (some ⟨w20.heap.size, 0, none⟩) 1 1 [dgt] (by rfl) (Rd.of_has (Has.new w20 3 (vals .i64 [dgt])) (by omega) (by rfl) (by simp)) (m + 1) (by rfl) (D ++ [dgt]) (by rfl) (by have := NX.out.2.1; have := HN.out; omega) (by have := NX.out.2.1; have := HN.out; unfold maxLen; omega) (by have := HSS.out _ hb20; simp; omega) ?_
             intro A8 c8 w21 hoE21 hbx hsame
             have hal := (Below.refl w20.heap.size w20).alloc (Nat.le_refl _) (.cells (vals .i64 [dgt]) 3)
             have hoM21 := own_base (own_far (hoM20.keep hal) (fun g' hA => by
               cases hA
               exact hsame _ (by simp; omega) (fun g2 hA2 => by subst hA2; exact own_ne hoM20 hoD20 tne))) (HSS.out _ hb)
             have hb21 := (hb20.alloc (HSS.out _ hb20) (.cells (vals .i64 [dgt]) 3)).trans hbx
             clear hbx hsame hal hoM20 hoD20 hb20)
          | (go_at_call 51
             have hal := (Below.refl wr.heap.size wr).alloc (Nat.le_refl _) (.cells (vals .u64 [dd]) 23)
             refine (PA.out _ wr.heap.size (rd_here hrL hal) (Has.new _ _ _)).mono ?_
             rintro e w20 ⟨A9, c9, rfl, hoM20', hq⟩
             have hbe := hal.trans (hq.mono hal.size)
             have hoM20 := own_base (b' := wr.heap.size) hoM20' hal.size
             obtain ⟨gm, rfl, hgm0, hgm1, hgm2, -, -⟩ := hoM20.at_ (by omega)
             have hoD20 := hoD.keep hbe
             have hb20 := hb.trans (hbe.mono (HSS.out _ hb))
             clear hal hq hbe hoM20' hoL hoD hrL)
          | (go_at_call 45; refine (CM.out _ hrL).mono ?_; rintro e w' ⟨rfl, rfl⟩))
        go_loopg [13] (n + 1) (fun (gk : Nat) vi wr => ∃ k : Nat, k + gk = n + 1 ∧ vi = .int .i64 k ∧ Own wr S 23 .u64 (some ⟨gm, 0, none⟩) (n + 1) c9 (fill (n + 1) (shw M 128 144115188075855872) (nth M) k) ∧ Own wr S 3 .i64 A8 (m + 1) c8 (D ++ [dgt]) ∧ Below S w wr)
        case atStart => exact ⟨0, by omega, rfl, by rw [fill_zero _ _ _ HM.out.2.1]; exact hoM21, hoE21, hb21⟩
        case round =>
          clear hoM21 hoE21 hb21
          obtain ⟨k, hk, rfl, hoP, hoE, hb5⟩ := hrel
          by_cases hlt : k < n + 1
          · obtain ⟨j, rfl⟩ : ∃ j, gk = j + 1 := ⟨gk - 1, by omega⟩
            obtain ⟨x, hx⟩ : ∃ x, nth M k = x := ⟨_, rfl⟩
            obtain ⟨y, hy⟩ : ∃ y, nth M (k + 1) = y := ⟨_, rfl⟩
            have bx := HM.out.1 k
            have by' := HM.out.1 (k + 1)
            rw [hx] at bx
            rw [hy] at by'
            have hcx : nth (fill (n + 1) (shw M 128 144115188075855872) (nth M) k) k = x := by rw [fill_nth _ _ _ hlt, if_neg (by omega)]; exact hx
            have hcy : nth (fill (n + 1) (shw M 128 144115188075855872) (nth M) k) (k + 1) = y := by
              rcases Nat.lt_or_ge (k + 1) (n + 1) with h | h
              · rw [fill_nth _ _ _ h, if_neg (by omega)]; exact hy
              · rw [nth_ge (by rw [fill_len]; exact h), ← hy, nth_ge (by rw [HM.out.2.1]; exact h)]
            obtain ⟨z, hz⟩ : ∃ z, shw M 128 144115188075855872 k = z := ⟨_, rfl⟩
            have hzz : x / 128 + y % 128 * 144115188075855872 = z := by rw [← hz, ← hx, ← hy]; rfl
            have bz := shw_word HM.out.1 (B := 128) (C := 144115188075855872) (by decide) (by decide) (by decide) k
            rw [hz] at bz
            obtain ⟨P, hP⟩ : ∃ P, fill (n + 1) (shw M 128 144115188075855872) (nth M) k = P := ⟨_, rfl⟩
            rw [hP] at hoP hcx hcy
            have HP : Keep (P.set k z = fill (n + 1) (shw M 128 144115188075855872) (nth M) (k + 1)) := ⟨by rw [← hP]; exact fill_set _ _ hlt hz.symm⟩
            obtain ⟨hgs, hcP, -⟩ := own_cells hoP (Nat.succ_pos n)
            have hck := hcP k hlt
            rw [hcx] at hck
            have AT : Keep (∀ y' : World, Rd y' y'.heap.size (some ⟨gm, 0, none⟩) (n + 1) .u64 P → Calls Try.prog 52 #[.slice (some ⟨gm, 0, none⟩) (n + 1) c9, .int .i64 ((k : Int) + 1)] y' fun e y2 => e = .returned (.int .u64 y) ∧ Below y'.heap.size y' y2) := ⟨fun y' h => by
              have h1 := at_c (some ⟨gm, 0, none⟩) (n + 1) c9 P y'.heap.size (k + 1) y' h
              rw [hcy] at h1
              exact h1.mono fun e x' ⟨he, hx⟩ => ⟨he, hx ▸ Below.refl _ _⟩⟩
            have hrP := hoP.rd
            have hk1 : wrap64 ((k : Int) + 1) = (k : Int) + 1 := by have := HN.out; unfold wrap64; omega
            have HK2 : Keep (wrap64 ((k : Int) + 1) = ((k + 1 : Nat) : Int)) := ⟨hk1⟩
            obtain ⟨yc, hyc⟩ : ∃ v, y % 128 * 144115188075855872 = v := ⟨_, rfl⟩
            have hsh : IntKind.u64.wrap (y * 144115188075855872) = yc := by rw [IntKind.wrap_u64]; omega
            have hsm : IntKind.u64.wrap (x / 128 + yc) = z := by rw [IntKind.wrap_u64]; omega
            clear hzz hyc bx by' bz
            clear hz hx hy hP hcx hcy hcP
            go_wp2
            refine wp_fam 19 (by kernel_rfl) (by kernel_rfl) (fun I hI' fw hf hback => ?_)
            simp only [List.take_succ_cons, List.take_zero, List.drop_succ_cons, List.drop_zero]
            have c0 : ∀ j, (fw j).cell? ⟨gm, k, none⟩ = some (.int .u64 x) := fun j => ((hf j).cell (p := ⟨gm, k, none⟩) hgs).trans hck
            repeat (first | go_big_quiet_step (first | fail | (go_at_call 52; with_reducible exact calls_fam hf hback (AT.out _ (rd_here hrP (hf _))))))
            refine wpQuiet_nil ?_
            intro w6 hb6
            clear hsh hsm hk1
            have hoP6 := hoP.keep hb6
            have hoE6 := hoE.keep hb6
            have hbb6 := hb5.trans (hb6.mono (HSS.out _ hb5))
            clear c0 hf hback hb6 hck hrP hoP hoE hb5 AT
            obtain ⟨hgs6, hcP6, hfP6⟩ := own_cells hoP6 (Nat.succ_pos n)
            have co := hcP6 k hlt
            have zo := hfP6 k
            have hoP7 := hoP6.set_ hlt z
            rw [HP.out] at hoP7
            have hoE7 := own_far (w' := w6.setCell ⟨gm, k, none⟩ (.int .u64 z)) hoE6 (fun g' hA => heap_setCell_other w6 _ _ _ (by subst hA; exact (own_ne hoP6 hoE6 tne).symm))
            have hb7 := hbb6.setCell (p := ⟨gm, k, none⟩) (Nat.le_trans (HSS.out _ hb) hgm0) (.int .u64 z)
            clear hcP6 hfP6 hoP6 hoE6 hbb6
            go_wp2
            go_roundg j
            case measure => exact Nat.lt_succ_self _
            case rel => exact ⟨k + 1, by rw [Nat.add_assoc, Nat.add_comm 1 j]; exact hk, by first | rfl | rw [HK2.out], hoP7, hoE7, hb7⟩
          · obtain rfl : gk = 0 := by omega
            obtain rfl : k = n + 1 := by omega
            have eP : fill (n + 1) (shw M 128 144115188075855872) (nth M) (n + 1) = tab (n + 1) (shw M 128 144115188075855872) := fill_all_ _ _ _
            rw [eP] at hoP
            have hnum := shift_num HM.out.2.1 (B := 128) (C := 144115188075855872) (by decide) (by decide)
            rw [HM.out.2.2] at hnum
            have HR : Keep (Words (tab (n + 1) (shw M 128 144115188075855872)) ∧ (tab (n + 1) (shw M 128 144115188075855872)).length = n + 1 ∧ num (tab (n + 1) (shw M 128 144115188075855872)) < wp n ∧ num (tab (n + 1) (shw M 128 144115188075855872)) < 2 ^ g ∧ m + 1 + g ≤ 64 * n ∧ (D ++ [dgt]) ++ digs 64 g (num (tab (n + 1) (shw M 128 144115188075855872))) = res) := ⟨words_of _ (fun i hi => by
              rw [tab_len] at hi
              rw [tab_nth _ hi]
              exact shw_word HM.out.1 (by decide) (by decide) (by decide) i), tab_len _ _, by rw [hnum]; exact NX.out.2.2.2, by rw [hnum]; exact NX.out.1, NX.out.2.1, by rw [hnum, List.append_assoc]; exact HDS.out⟩
            clear eP hnum
            go_wp2
            go_roundg g
            case measure => omega
            case rel => exact ⟨_, _, _, _, _, _, _, rfl, rfl, hoP, hoE, HR, hb5⟩
      · have htm : x0.tmod 128 = d0 := by rw [Int.tmod_eq_emod_of_nonneg (by rw [← hx0]; exact (HI.out.1 0).1)]; exact hd0
        have hwd : wrap64 d0 = d0 := by unfold wrap64; omega
        obtain ⟨dgt, hdg⟩ : ∃ d, d0 = d := ⟨_, rfl⟩
        obtain ⟨dd, hdd⟩ : ∃ d, dgt = d := ⟨_, rfl⟩
        rw [if_neg hbig, hdg] at hdig
        have bdd : 0 ≤ dd ∧ dd ≤ 256 := by omega
        have e4 : dd = d0 := by omega
        have e3 : IntKind.u64.wrap d0 = d0 := by rw [IntKind.wrap_u64]; omega
        obtain ⟨M, hM⟩ : ∃ o, subL L [dd] = o := ⟨_, rfl⟩
        have n1 : num [dd] = dd := by simp [num, low, nth, wp]
        have hnM : num M = 2 * 64 * nx 64 (num L) := by
          have hr := wp_room n
          have hlt := HI.out.2.2.1
          rw [← hM, subL, HI.out.2.1, show max (n + 1) [dd].length = n + 1 from Nat.max_eq_left (by simp), n1, num_wd_of (by omega) (by omega)]
          omega
        have HM : Keep (Words M ∧ M.length = n + 1 ∧ num M / 128 = nx 64 (num L)) := ⟨by rw [← hM]; exact wd_words _ _, by rw [← hM, subL, wd_len, HI.out.2.1]; exact Nat.max_eq_left (by simp), by rw [hnM]; exact Int.mul_ediv_cancel_left _ (by decide)⟩
        have HDS : Keep (D ++ dgt :: digs 64 g (nx 64 (num L)) = res) := ⟨by rw [← hdig]; exact hds⟩
        have PA : Keep (∀ (y : World) (g' : Nat), Rd y y.heap.size (some ⟨gl, 0, none⟩) (n + 1) .u64 L → Has y g' 23 (vals .u64 [dd]) → Calls Try.prog 40 #[.slice (some ⟨gl, 0, none⟩) (n + 1) c6, .slice (some ⟨g', 0, none⟩) 1 1] y fun e y' => ∃ A9 c9, e = .returned (.tuple #[.slice A9 (n + 1) c9, .int .u64 (subC L [dd])]) ∧ Own y' y.heap.size 23 .u64 A9 (n + 1) c9 M ∧ Below y.heap.size y y') := ⟨fun y g' h h' => by
          have h1 := refSub_c (some ⟨gl, 0, none⟩) (n + 1) c6 L (some ⟨g', 0, none⟩) 1 1 [dd] y.heap.size y h HI.out.1 (Rd.of_has h' h'.lt (by rfl) (by simp)) (words_one (by omega) (by omega)) (Nat.le_refl _) (by have := HN.out; omega) (by omega)
          rw [hM, show max (n + 1) 1 = n + 1 from Nat.max_eq_left (by omega)] at h1
          exact h1⟩
        obtain ⟨cc, hcc⟩ : ∃ o, subC L [dd] = o := ⟨_, rfl⟩
        rw [hcc] at PA
        clear hnx hnl hn0 hdb hcl hmod hds hdig hv0 hz hd0 hx0 hM n1 hnM hcc
        rw [e4] at PA
        clear e4 hdd bdd
        have HDG : dgt = d0 := hdg.symm
        subst HDG
        go_wp2_with (first
          | (refine append_abs2 (by rfl) (.tmp 66) (.tmp 68) 40 (by rfl) S 3 .i64 8 Try.underlying40 i64Elem A7 m c7 D (by rfl) (hoD20.keep ((Below.refl _ _).alloc (Nat.le_refl _) _)) (w20.heap.size + 1) (some ⟨w20.heap.size, 0, none⟩) 1 1 [dgt] (by rfl) (Rd.of_has (Has.new w20 3 (vals .i64 [dgt])) (by omega) (by rfl) (by simp)) (m + 1) (by rfl) (D ++ [dgt]) (by rfl) (by have := NX.out.2.1; have := HN.out; omega) (by have := NX.out.2.1; have := HN.out; unfold maxLen; omega) (by have := HSS.out _ hb20; simp; omega) ?_
             intro A8 c8 w21 hoE21 hbx hsame
             have hal := (Below.refl w20.heap.size w20).alloc (Nat.le_refl _) (.cells (vals .i64 [dgt]) 3)
             have hoM21 := own_base (own_far (hoM20.keep hal) (fun g' hA => by
               cases hA
               exact hsame _ (by simp; omega) (fun g2 hA2 => by subst hA2; exact own_ne hoM20 hoD20 tne))) (HSS.out _ hb)
             have hb21 := (hb20.alloc (HSS.out _ hb20) (.cells (vals .i64 [dgt]) 3)).trans hbx
             clear hbx hsame hal hoM20 hoD20 hb20)
          | (go_at_call 40
             have hal := (Below.refl wr.heap.size wr).alloc (Nat.le_refl _) (.cells (vals .u64 [dgt]) 23)
             refine (PA.out _ wr.heap.size (rd_here hrL hal) (Has.new _ _ _)).mono ?_
             rintro e w20 ⟨A9, c9, rfl, hoM20', hq⟩
             have hbe := hal.trans (hq.mono hal.size)
             have hoM20 := own_base (b' := wr.heap.size) hoM20' hal.size
             obtain ⟨gm, rfl, hgm0, hgm1, hgm2, -, -⟩ := hoM20.at_ (by omega)
             have hoD20 := hoD.keep hbe
             have hb20 := hb.trans (hbe.mono (HSS.out _ hb))
             clear hal hq hbe hoM20' hoL hoD hrL)
          | (go_at_call 45; refine (CM.out _ hrL).mono ?_; rintro e w' ⟨rfl, rfl⟩))
        go_loopg [13] (n + 1) (fun (gk : Nat) vi wr => ∃ k : Nat, k + gk = n + 1 ∧ vi = .int .i64 k ∧ Own wr S 23 .u64 (some ⟨gm, 0, none⟩) (n + 1) c9 (fill (n + 1) (shw M 128 144115188075855872) (nth M) k) ∧ Own wr S 3 .i64 A8 (m + 1) c8 (D ++ [dgt]) ∧ Below S w wr)
        case atStart => exact ⟨0, by omega, rfl, by rw [fill_zero _ _ _ HM.out.2.1]; exact hoM21, hoE21, hb21⟩
        case round =>
          clear hoM21 hoE21 hb21
          obtain ⟨k, hk, rfl, hoP, hoE, hb5⟩ := hrel
          by_cases hlt : k < n + 1
          · obtain ⟨j, rfl⟩ : ∃ j, gk = j + 1 := ⟨gk - 1, by omega⟩
            obtain ⟨x, hx⟩ : ∃ x, nth M k = x := ⟨_, rfl⟩
            obtain ⟨y, hy⟩ : ∃ y, nth M (k + 1) = y := ⟨_, rfl⟩
            have bx := HM.out.1 k
            have by' := HM.out.1 (k + 1)
            rw [hx] at bx
            rw [hy] at by'
            have hcx : nth (fill (n + 1) (shw M 128 144115188075855872) (nth M) k) k = x := by rw [fill_nth _ _ _ hlt, if_neg (by omega)]; exact hx
            have hcy : nth (fill (n + 1) (shw M 128 144115188075855872) (nth M) k) (k + 1) = y := by
              rcases Nat.lt_or_ge (k + 1) (n + 1) with h | h
              · rw [fill_nth _ _ _ h, if_neg (by omega)]; exact hy
              · rw [nth_ge (by rw [fill_len]; exact h), ← hy, nth_ge (by rw [HM.out.2.1]; exact h)]
            obtain ⟨z, hz⟩ : ∃ z, shw M 128 144115188075855872 k = z := ⟨_, rfl⟩
            have hzz : x / 128 + y % 128 * 144115188075855872 = z := by rw [← hz, ← hx, ← hy]; rfl
            have bz := shw_word HM.out.1 (B := 128) (C := 144115188075855872) (by decide) (by decide) (by decide) k
            rw [hz] at bz
            obtain ⟨P, hP⟩ : ∃ P, fill (n + 1) (shw M 128 144115188075855872) (nth M) k = P := ⟨_, rfl⟩
            rw [hP] at hoP hcx hcy
            have HP : Keep (P.set k z = fill (n + 1) (shw M 128 144115188075855872) (nth M) (k + 1)) := ⟨by rw [← hP]; exact fill_set _ _ hlt hz.symm⟩
            obtain ⟨hgs, hcP, -⟩ := own_cells hoP (Nat.succ_pos n)
            have hck := hcP k hlt
            rw [hcx] at hck
            have AT : Keep (∀ y' : World, Rd y' y'.heap.size (some ⟨gm, 0, none⟩) (n + 1) .u64 P → Calls Try.prog 52 #[.slice (some ⟨gm, 0, none⟩) (n + 1) c9, .int .i64 ((k : Int) + 1)] y' fun e y2 => e = .returned (.int .u64 y) ∧ Below y'.heap.size y' y2) := ⟨fun y' h => by
              have h1 := at_c (some ⟨gm, 0, none⟩) (n + 1) c9 P y'.heap.size (k + 1) y' h
              rw [hcy] at h1
              exact h1.mono fun e x' ⟨he, hx⟩ => ⟨he, hx ▸ Below.refl _ _⟩⟩
            have hrP := hoP.rd
            have hk1 : wrap64 ((k : Int) + 1) = (k : Int) + 1 := by have := HN.out; unfold wrap64; omega
            have HK2 : Keep (wrap64 ((k : Int) + 1) = ((k + 1 : Nat) : Int)) := ⟨hk1⟩
            obtain ⟨yc, hyc⟩ : ∃ v, y % 128 * 144115188075855872 = v := ⟨_, rfl⟩
            have hsh : IntKind.u64.wrap (y * 144115188075855872) = yc := by rw [IntKind.wrap_u64]; omega
            have hsm : IntKind.u64.wrap (x / 128 + yc) = z := by rw [IntKind.wrap_u64]; omega
            clear hzz hyc bx by' bz
            clear hz hx hy hP hcx hcy hcP
            go_wp2
            refine wp_fam 19 (by kernel_rfl) (by kernel_rfl) (fun I hI' fw hf hback => ?_)
            simp only [List.take_succ_cons, List.take_zero, List.drop_succ_cons, List.drop_zero]
            have c0 : ∀ j, (fw j).cell? ⟨gm, k, none⟩ = some (.int .u64 x) := fun j => ((hf j).cell (p := ⟨gm, k, none⟩) hgs).trans hck
            repeat (first | go_big_quiet_step (first | fail | (go_at_call 52; with_reducible exact calls_fam hf hback (AT.out _ (rd_here hrP (hf _))))))
            refine wpQuiet_nil ?_
            intro w6 hb6
            clear hsh hsm hk1
            have hoP6 := hoP.keep hb6
            have hoE6 := hoE.keep hb6
            have hbb6 := hb5.trans (hb6.mono (HSS.out _ hb5))
            clear c0 hf hback hb6 hck hrP hoP hoE hb5 AT
            obtain ⟨hgs6, hcP6, hfP6⟩ := own_cells hoP6 (Nat.succ_pos n)
            have co := hcP6 k hlt
            have zo := hfP6 k
            have hoP7 := hoP6.set_ hlt z
            rw [HP.out] at hoP7
            have hoE7 := own_far (w' := w6.setCell ⟨gm, k, none⟩ (.int .u64 z)) hoE6 (fun g' hA => heap_setCell_other w6 _ _ _ (by subst hA; exact (own_ne hoP6 hoE6 tne).symm))
            have hb7 := hbb6.setCell (p := ⟨gm, k, none⟩) (Nat.le_trans (HSS.out _ hb) hgm0) (.int .u64 z)
            clear hcP6 hfP6 hoP6 hoE6 hbb6
            go_wp2
            go_roundg j
            case measure => exact Nat.lt_succ_self _
            case rel => exact ⟨k + 1, by rw [Nat.add_assoc, Nat.add_comm 1 j]; exact hk, by first | rfl | rw [HK2.out], hoP7, hoE7, hb7⟩
          · obtain rfl : gk = 0 := by omega
            obtain rfl : k = n + 1 := by omega
            have eP : fill (n + 1) (shw M 128 144115188075855872) (nth M) (n + 1) = tab (n + 1) (shw M 128 144115188075855872) := fill_all_ _ _ _
            rw [eP] at hoP
            have hnum := shift_num HM.out.2.1 (B := 128) (C := 144115188075855872) (by decide) (by decide)
            rw [HM.out.2.2] at hnum
            have HR : Keep (Words (tab (n + 1) (shw M 128 144115188075855872)) ∧ (tab (n + 1) (shw M 128 144115188075855872)).length = n + 1 ∧ num (tab (n + 1) (shw M 128 144115188075855872)) < wp n ∧ num (tab (n + 1) (shw M 128 144115188075855872)) < 2 ^ g ∧ m + 1 + g ≤ 64 * n ∧ (D ++ [dgt]) ++ digs 64 g (num (tab (n + 1) (shw M 128 144115188075855872))) = res) := ⟨words_of _ (fun i hi => by
              rw [tab_len] at hi
              rw [tab_nth _ hi]
              exact shw_word HM.out.1 (by decide) (by decide) (by decide) i), tab_len _ _, by rw [hnum]; exact NX.out.2.2.2, by rw [hnum]; exact NX.out.1, NX.out.2.1, by rw [hnum, List.append_assoc]; exact HDS.out⟩
            clear eP hnum
            go_wp2
            go_roundg g
            case measure => omega
            case rel => exact ⟨_, _, _, _, _, _, _, rfl, rfl, hoP, hoE, HR, hb5⟩

set_option maxRecDepth 100000 in
set_option maxHeartbeats 4000000 in
theorem refWindows_8 (A : Option Addr) (n c : Nat) (l : List Int) (B : Nat) (w : World) (hr : Rd w B A n .u64 l) (hwl : Words l) (hB : B ≤ w.heap.size) (hn : n ≤ 10000) : Calls Try.prog 31 #[.slice A n c, .int .i64 8] w fun e w' => ∃ A' m c', e = .returned (.tuple #[.slice A' m c', .int .i64 0]) ∧ Own w' w.heap.size 3 .i64 A' m c' (digs 128 (64 * n) (num l)) ∧ Below w.heap.size w w' := by
  obtain ⟨S, hS⟩ : ∃ S, w.heap.size = S := ⟨_, rfl⟩
  have hb0 : Below S w w := Below.refl _ _
  have HSS : Keep (∀ x : World, Below S w x → S ≤ x.heap.size) := ⟨fun x hb => by have := hb.size; omega⟩
  have HRD : Keep (∀ x : World, Below S w x → Rd x x.heap.size A n .u64 l) := ⟨fun x hb => (hr.keep hb (by omega)).more (Nat.le_trans hB (Nat.le_trans (by omega) (HSS.out _ hb)))⟩
  have LN : Keep (l.length = n) := ⟨hr.len⟩
  have HN : Keep (n ≤ 10000) := ⟨hn⟩
  obtain ⟨res, hres⟩ : ∃ o, digs 128 (64 * n) (num l) = o := ⟨_, rfl⟩
  have H0 : Keep (Words (l ++ [0]) ∧ (l ++ [0]).length = n + 1 ∧ num (l ++ [0]) < wp n ∧ num (l ++ [0]) < 2 ^ (64 * n) ∧ 0 + 64 * n ≤ 64 * n ∧ [] ++ digs 128 (64 * n) (num (l ++ [0])) = res) := ⟨by
    have e : num (l ++ [0]) = num l := by rw [num_append]; simp [num, low, nth]
    have hb := num_bounds hwl
    rw [LN.out] at hb
    refine ⟨words_append hwl (words_of _ (by decide)), by rw [List.length_append, LN.out]; rfl, by rw [e]; exact hb.2, by rw [e, ← tp, tp_wp]; exact hb.2, by omega, by rw [e]; exact hres⟩⟩
  rw [hres, hS]
  clear hr hwl hB hn hres
  go_enter Try.func31, Try.ntmps31
  go_wp2_with (first
    | (refine append_abs (by rfl) (.tmp 22) (.tmp 23) 39 (by rfl) S 23 .u64 8 Try.underlying39 u64Elem A1 n c1 l (by rfl) (ho1.keep ((Below.refl _ _).alloc (Nat.le_refl _) _)) (w1.heap.size + 1) (some ⟨w1.heap.size, 0, none⟩) 1 1 [0] (by rfl) (Rd.of_has (Has.new w1 23 (vals .u64 [0])) (by omega) (by rfl) (by simp)) (n + 1) (by rfl) (l ++ [0]) (by rfl) (by have := HN.out; omega) (by have := HN.out; unfold maxLen; omega) (by have := HSS.out _ hb1; simp; omega) ?_
       intro A2 c2 w2 ho2 hbx
       have hb2 := (hb1.alloc (HSS.out _ hb1) (.cells (vals .u64 [0]) 23)).trans hbx
       clear hbx hb1 ho1)
    | (refine append_abs (by rfl) (.tmp 20) (.tmp 21) 39 (by rfl) S 23 .u64 8 Try.underlying39 u64Elem (some ⟨S, 0, none⟩) 0 0 [] (by rfl) (Own.of_has (Has.new' w hS.symm 23 (vals .u64 [])) (Nat.le_refl _) (Nat.zero_le _)) (S + 1) A n c l (by rfl) (((HRD.out _ hb0).keep ((Below.refl w.heap.size w).alloc (Nat.le_refl _) _) (Nat.le_refl _)).more (by omega)) n (Nat.zero_add n) l (by rfl) (by have := HN.out; omega) (by have := HN.out; unfold maxLen; omega) (by simp; omega) ?_
       intro A1 c1 w1 ho1 hbx
       have hb1 := (hb0.alloc (by omega) (.cells (vals .u64 []) 23)).trans hbx
       clear hbx))
  go_loopg [6, 7] (64 * n) (fun (gk : Nat) vl vo wr => ∃ (A6 : Option Addr) (c6 : Nat) (L : List Int) (A7 : Option Addr) (m c7 : Nat) (D : List Int), vl = .slice A6 (n + 1) c6 ∧ vo = .slice A7 m c7 ∧ Own wr S 23 .u64 A6 (n + 1) c6 L ∧ Own wr S 3 .i64 A7 m c7 D ∧ Keep (Words L ∧ L.length = n + 1 ∧ num L < wp n ∧ num L < 2 ^ gk ∧ m + gk ≤ 64 * n ∧ D ++ digs 128 gk (num L) = res) ∧ Below S w wr)
  case atStart => exact ⟨A2, c2, l ++ [0], none, 0, 0, [], rfl, rfl, ho2, own_none _ _ _ _, H0, hb2⟩
  case round =>
    clear ho2 hb2
    obtain ⟨A6, c6, L, A7, m, c7, D, rfl, rfl, hoL, hoD, HI, hb⟩ := hrel
    have hv0 := (num_bounds HI.out.1).1
    have hrL := hoL.rd
    by_cases hz : num L = 0
    · have CM : Keep (∀ y : World, Rd y y.heap.size A6 (n + 1) .u64 L → Calls Try.prog 45 #[.slice A6 (n + 1) c6, .slice none 0 0] y fun e y' => e = .returned (.int .i64 0) ∧ y = y') := ⟨fun y h => by
        have h1 := refCmp_c A6 (n + 1) c6 L none 0 0 [] y.heap.size y h HI.out.1 ⟨rfl, fun h => absurd h (by omega)⟩ (words_of _ (by intro i hi; simp at hi)) (by have := HN.out; omega) (by omega)
        have e : cmpL L [] = 0 := by rw [cmpL, num_nil, if_neg (by omega), if_pos hz]
        rw [e] at h1
        exact h1⟩
      have FIN : Keep (D = res) := ⟨by have := HI.out.2.2.2.2.2; rw [hz, digs_zero, List.append_nil] at this; exact this⟩
      clear hz hv0
      go_wp2_with (go_at_call 45; refine (CM.out _ hrL).mono ?_; rintro e w' ⟨rfl, rfl⟩)
      go_ret2
      exact ⟨A7, m, c7, rfl, by rw [← FIN.out]; exact hoD, hb⟩
    · obtain ⟨g, rfl⟩ : ∃ g, gk = g + 1 := ⟨gk - 1, by
        rcases gk with _ | g
        · have := HI.out.2.2.2.1; simp at this; omega
        · omega⟩
      have CM : Keep (∀ y : World, Rd y y.heap.size A6 (n + 1) .u64 L → Calls Try.prog 45 #[.slice A6 (n + 1) c6, .slice none 0 0] y fun e y' => e = .returned (.int .i64 1) ∧ y = y') := ⟨fun y h => by
        have h1 := refCmp_c A6 (n + 1) c6 L none 0 0 [] y.heap.size y h HI.out.1 ⟨rfl, fun h => absurd h (by omega)⟩ (words_of _ (by intro i hi; simp at hi)) (by have := HN.out; omega) (by omega)
        have e : cmpL L [] = 1 := by rw [cmpL, num_nil, if_neg (by omega), if_neg hz]
        rw [e] at h1
        exact h1⟩
      obtain ⟨gl, rfl, hgl0, hgl1, hgn, hcl, hfl⟩ := hoL.at_ (by omega)
      obtain ⟨x0, hx0⟩ : ∃ x, nth L 0 = x := ⟨_, rfl⟩
      have hc0 := hcl 0 (by omega)
      rw [hx0] at hc0
      obtain ⟨d0, hd0⟩ : ∃ d, x0 % 256 = d := ⟨_, rfl⟩
      have bd0 : 0 ≤ d0 ∧ d0 < 256 := by omega
      have hmod : num L % (2 * 128) = d0 := by rw [← hd0, ← hx0]; exact num_mod_head (B := 256) (C := 72057594037927936) (by decide)
      have hdig : dg 128 (num L) = if 128 < d0 then d0 - 256 else d0 := by unfold dg; rw [hmod]; rfl
      have hdb := dg_bounds (H := 128) (v := num L) (by decide)
      have hnx := nx_eq (H := 128) (v := num L) (by decide)
      have hnl := nx_less (H := 128) (v := num L) (by decide) hv0 HI.out.2.2.2.1
      have hn0 := nx_nonneg (H := 128) (v := num L) (by decide) hv0
      have hds : D ++ dg 128 (num L) :: digs 128 g (nx 128 (num L)) = res := by rw [← digs_step hz]; exact HI.out.2.2.2.2.2
      have NX : Keep (nx 128 (num L) < 2 ^ g ∧ m + 1 + g ≤ 64 * n ∧ 0 ≤ nx 128 (num L) ∧ nx 128 (num L) < wp n) := ⟨hnl, by have := HI.out.2.2.2.2.1; omega, hn0, by have := HI.out.2.2.1; omega⟩
      by_cases hbig : 128 < d0
      · have htm : x0.tmod 256 = d0 := by rw [Int.tmod_eq_emod_of_nonneg (by rw [← hx0]; exact (HI.out.1 0).1)]; exact hd0
        have hwd : wrap64 d0 = d0 := by unfold wrap64; omega
        obtain ⟨dgt, hdg⟩ : ∃ d, d0 - 256 = d := ⟨_, rfl⟩
        obtain ⟨dd, hdd⟩ : ∃ d, -dgt = d := ⟨_, rfl⟩
        rw [if_pos hbig, hdg] at hdig
        have bdd : 0 ≤ dd ∧ dd ≤ 256 := by omega
        have e1 : wrap64 (d0 - 256) = dgt := by rw [hdg]; unfold wrap64; omega
        have e2 : wrap64 (-dgt) = dd := by rw [hdd]; unfold wrap64; omega
        have e3 : IntKind.u64.wrap dd = dd := by rw [IntKind.wrap_u64]; omega
        obtain ⟨M, hM⟩ : ∃ o, addL L [dd] = o := ⟨_, rfl⟩
        have n1 : num [dd] = dd := by simp [num, low, nth, wp]
        have hnM : num M = 2 * 128 * nx 128 (num L) := by
          have hr := wp_room n
          have hlt := HI.out.2.2.1
          rw [← hM, addL, HI.out.2.1, show max (n + 1) [dd].length = n + 1 from Nat.max_eq_left (by simp), n1, num_wd_of (by omega) (by omega)]
          omega
        have HM : Keep (Words M ∧ M.length = n + 1 ∧ num M / 256 = nx 128 (num L)) := ⟨by rw [← hM]; exact wd_words _ _, by rw [← hM, addL, wd_len, HI.out.2.1]; exact Nat.max_eq_left (by simp), by rw [hnM]; exact Int.mul_ediv_cancel_left _ (by decide)⟩
        have HDS : Keep (D ++ dgt :: digs 128 g (nx 128 (num L)) = res) := ⟨by rw [← hdig]; exact hds⟩
        have PA : Keep (∀ (y : World) (g' : Nat), Rd y y.heap.size (some ⟨gl, 0, none⟩) (n + 1) .u64 L → Has y g' 23 (vals .u64 [dd]) → Calls Try.prog 51 #[.slice (some ⟨gl, 0, none⟩) (n + 1) c6, .slice (some ⟨g', 0, none⟩) 1 1] y fun e y' => ∃ A9 c9, e = .returned (.tuple #[.slice A9 (n + 1) c9, .int .u64 (addC L [dd])]) ∧ Own y' y.heap.size 23 .u64 A9 (n + 1) c9 M ∧ Below y.heap.size y y') := ⟨fun y g' h h' => by
          have h1 := refAdd_c (some ⟨gl, 0, none⟩) (n + 1) c6 L (some ⟨g', 0, none⟩) 1 1 [dd] y.heap.size y h HI.out.1 (Rd.of_has h' h'.lt (by rfl) (by simp)) (words_one (by omega) (by omega)) (Nat.le_refl _) (by have := HN.out; omega) (by omega)
          rw [hM, show max (n + 1) 1 = n + 1 from Nat.max_eq_left (by omega)] at h1
          exact h1⟩
        obtain ⟨cc, hcc⟩ : ∃ o, addC L [dd] = o := ⟨_, rfl⟩
        rw [hcc] at PA
        clear hnx hnl hn0 hdb hcl hmod hds hdig hv0 hz hd0 hx0 hM n1 hnM hcc
        go_wp2_with (first
          | (refine append_abs2 (by rfl) (.tmp 66) (.tmp 68) 40 (by rfl) S 3 .i64 8 Try.underlying40 i64Elem A7 m c7 D (by rfl) (hoD20.keep ((Below.refl _ _).alloc (Nat.le_refl _) _)) (w20.heap.size + 1) (some ⟨w20.heap.size, 0, none⟩) 1 1 [dgt] (by rfl) (Rd.of_has (Has.new w20 3 (vals .i64 [dgt])) (by omega) (by rfl) (by simp)) (m + 1) (by rfl) (D ++ [dgt]) (by rfl) (by have := NX.out.2.1; have := HN.out; omega) (by have := NX.out.2.1; have := HN.out; unfold maxLen; omega) (by have := HSS.out _ hb20; simp; omega) ?_
             intro A8 c8 w21 hoE21 hbx hsame
             have hal := (Below.refl w20.heap.size w20).alloc (Nat.le_refl _) (.cells (vals .i64 [dgt]) 3)
             have hoM21 := own_base (own_far (hoM20.keep hal) (fun g' hA => by
               cases hA
               exact hsame _ (by simp; omega) (fun g2 hA2 => by subst hA2; exact own_ne hoM20 hoD20 tne))) (HSS.out _ hb)
             have hb21 := (hb20.alloc (HSS.out _ hb20) (.cells (vals .i64 [dgt]) 3)).trans hbx
             clear hbx hsame hal hoM20 hoD20 hb20)
          | (go_at_call 51
             have hal := (Below.refl wr.heap.size wr).alloc (Nat.le_refl _) (.cells (vals .u64 [dd]) 23)
             refine (PA.out _ wr.heap.size (rd_here hrL hal) (Has.new _ _ _)).mono ?_
             rintro e w20 ⟨A9, c9, rfl, hoM20', hq⟩
             have hbe := hal.trans (hq.mono hal.size)
             have hoM20 := own_base (b' := wr.heap.size) hoM20' hal.size
             obtain ⟨gm, rfl, hgm0, hgm1, hgm2, -, -⟩ := hoM20.at_ (by omega)
             have hoD20 := hoD.keep hbe
             have hb20 := hb.trans (hbe.mono (HSS.out _ hb))
             clear hal hq hbe hoM20' hoL hoD hrL)
          | (go_at_call 45; refine (CM.out _ hrL).mono ?_; rintro e w' ⟨rfl, rfl⟩))
        go_loopg [13] (n + 1) (fun (gk : Nat) vi wr => ∃ k : Nat, k + gk = n + 1 ∧ vi = .int .i64 k ∧ Own wr S 23 .u64 (some ⟨gm, 0, none⟩) (n + 1) c9 (fill (n + 1) (shw M 256 72057594037927936) (nth M) k) ∧ Own wr S 3 .i64 A8 (m + 1) c8 (D ++ [dgt]) ∧ Below S w wr)
        case atStart => exact ⟨0, by omega, rfl, by rw [fill_zero _ _ _ HM.out.2.1]; exact hoM21, hoE21, hb21⟩
        case round =>
          clear hoM21 hoE21 hb21
          obtain ⟨k, hk, rfl, hoP, hoE, hb5⟩ := hrel
          by_cases hlt : k < n + 1
          · obtain ⟨j, rfl⟩ : ∃ j, gk = j + 1 := ⟨gk - 1, by omega⟩
            obtain ⟨x, hx⟩ : ∃ x, nth M k = x := ⟨_, rfl⟩
            obtain ⟨y, hy⟩ : ∃ y, nth M (k + 1) = y := ⟨_, rfl⟩
            have bx := HM.out.1 k
            have by' := HM.out.1 (k + 1)
            rw [hx] at bx
            rw [hy] at by'
            have hcx : nth (fill (n + 1) (shw M 256 72057594037927936) (nth M) k) k = x := by rw [fill_nth _ _ _ hlt, if_neg (by omega)]; exact hx
            have hcy : nth (fill (n + 1) (shw M 256 72057594037927936) (nth M) k) (k + 1) = y := by
              rcases Nat.lt_or_ge (k + 1) (n + 1) with h | h
              · rw [fill_nth _ _ _ h, if_neg (by omega)]; exact hy
              · rw [nth_ge (by rw [fill_len]; exact h), ← hy, nth_ge (by rw [HM.out.2.1]; exact h)]
            obtain ⟨z, hz⟩ : ∃ z, shw M 256 72057594037927936 k = z := ⟨_, rfl⟩
            have hzz : x / 256 + y % 256 * 72057594037927936 = z := by rw [← hz, ← hx, ← hy]; rfl
            have bz := shw_word HM.out.1 (B := 256) (C := 72057594037927936) (by decide) (by decide) (by decide) k
            rw [hz] at bz
            obtain ⟨P, hP⟩ : ∃ P, fill (n + 1) (shw M 256 72057594037927936) (nth M) k = P := ⟨_, rfl⟩
            rw [hP] at hoP hcx hcy
            have HP : Keep (P.set k z = fill (n + 1) (shw M 256 72057594037927936) (nth M) (k + 1)) := ⟨by rw [← hP]; exact fill_set _ _ hlt hz.symm⟩
            obtain ⟨hgs, hcP, -⟩ := own_cells hoP (Nat.succ_pos n)
            have hck := hcP k hlt
            rw [hcx] at hck
            have AT : Keep (∀ y' : World, Rd y' y'.heap.size (some ⟨gm, 0, none⟩) (n + 1) .u64 P → Calls Try.prog 52 #[.slice (some ⟨gm, 0, none⟩) (n + 1) c9, .int .i64 ((k : Int) + 1)] y' fun e y2 => e = .returned (.int .u64 y) ∧ Below y'.heap.size y' y2) := ⟨fun y' h => by
              have h1 := at_c (some ⟨gm, 0, none⟩) (n + 1) c9 P y'.heap.size (k + 1) y' h
              rw [hcy] at h1
              exact h1.mono fun e x' ⟨he, hx⟩ => ⟨he, hx ▸ Below.refl _ _⟩⟩
            have hrP := hoP.rd
            have hk1 : wrap64 ((k : Int) + 1) = (k : Int) + 1 := by have := HN.out; unfold wrap64; omega
            have HK2 : Keep (wrap64 ((k : Int) + 1) = ((k + 1 : Nat) : Int)) := ⟨hk1⟩
            obtain ⟨yc, hyc⟩ : ∃ v, y % 256 * 72057594037927936 = v := ⟨_, rfl⟩
            have hsh : IntKind.u64.wrap (y * 72057594037927936) = yc := by rw [IntKind.wrap_u64]; omega
            have hsm : IntKind.u64.wrap (x / 256 + yc) = z := by rw [IntKind.wrap_u64]; omega
            clear hzz hyc bx by' bz
            clear hz hx hy hP hcx hcy hcP
            go_wp2
            refine wp_fam 19 (by kernel_rfl) (by kernel_rfl) (fun I hI' fw hf hback => ?_)
            simp only [List.take_succ_cons, List.take_zero, List.drop_succ_cons, List.drop_zero]
            have c0 : ∀ j, (fw j).cell? ⟨gm, k, none⟩ = some (.int .u64 x) := fun j => ((hf j).cell (p := ⟨gm, k, none⟩) hgs).trans hck
            repeat (first | go_big_quiet_step (first | fail | (go_at_call 52; with_reducible exact calls_fam hf hback (AT.out _ (rd_here hrP (hf _))))))
            refine wpQuiet_nil ?_
            intro w6 hb6
            clear hsh hsm hk1
            have hoP6 := hoP.keep hb6
            have hoE6 := hoE.keep hb6
            have hbb6 := hb5.trans (hb6.mono (HSS.out _ hb5))
            clear c0 hf hback hb6 hck hrP hoP hoE hb5 AT
            obtain ⟨hgs6, hcP6, hfP6⟩ := own_cells hoP6 (Nat.succ_pos n)
            have co := hcP6 k hlt
            have zo := hfP6 k
            have hoP7 := hoP6.set_ hlt z
            rw [HP.out] at hoP7
            have hoE7 := own_far (w' := w6.setCell ⟨gm, k, none⟩ (.int .u64 z)) hoE6 (fun g' hA => heap_setCell_other w6 _ _ _ (by subst hA; exact (own_ne hoP6 hoE6 tne).symm))
            have hb7 := hbb6.setCell (p := ⟨gm, k, none⟩) (Nat.le_trans (HSS.out _ hb) hgm0) (.int .u64 z)
            clear hcP6 hfP6 hoP6 hoE6 hbb6
            go_wp2
            go_roundg j
            case measure => exact Nat.lt_succ_self _
            case rel => exact ⟨k + 1, by rw [Nat.add_assoc, Nat.add_comm 1 j]; exact hk, by first | rfl | rw [HK2.out], hoP7, hoE7, hb7⟩
          · obtain rfl : gk = 0 := by omega
            obtain rfl : k = n + 1 := by omega
            have eP : fill (n + 1) (shw M 256 72057594037927936) (nth M) (n + 1) = tab (n + 1) (shw M 256 72057594037927936) := fill_all_ _ _ _
            rw [eP] at hoP
            have hnum := shift_num HM.out.2.1 (B := 256) (C := 72057594037927936) (by decide) (by decide)
            rw [HM.out.2.2] at hnum
            have HR : Keep (Words (tab (n + 1) (shw M 256 72057594037927936)) ∧ (tab (n + 1) (shw M 256 72057594037927936)).length = n + 1 ∧ num (tab (n + 1) (shw M 256 72057594037927936)) < wp n ∧ num (tab (n + 1) (shw M 256 72057594037927936)) < 2 ^ g ∧ m + 1 + g ≤ 64 * n ∧ (D ++ [dgt]) ++ digs 128 g (num (tab (n + 1) (shw M 256 72057594037927936))) = res) := ⟨words_of _ (fun i hi => by
              rw [tab_len] at hi
              rw [tab_nth _ hi]
              exact shw_word HM.out.1 (by decide) (by decide) (by decide) i), tab_len _ _, by rw [hnum]; exact NX.out.2.2.2, by rw [hnum]; exact NX.out.1, NX.out.2.1, by rw [hnum, List.append_assoc]; exact HDS.out⟩
            clear eP hnum
            go_wp2
            go_roundg g
            case measure => omega
            case rel => exact ⟨_, _, _, _, _, _, _, rfl, rfl, hoP, hoE, HR, hb5⟩
      · have htm : x0.tmod 256 = d0 := by rw [Int.tmod_eq_emod_of_nonneg (by rw [← hx0]; exact (HI.out.1 0).1)]; exact hd0
        have hwd : wrap64 d0 = d0 := by unfold wrap64; omega
        obtain ⟨dgt, hdg⟩ : ∃ d, d0 = d := ⟨_, rfl⟩
        obtain ⟨dd, hdd⟩ : ∃ d, dgt = d := ⟨_, rfl⟩
        rw [if_neg hbig, hdg] at hdig
        have bdd : 0 ≤ dd ∧ dd ≤ 256 := by omega
        have e4 : dd = d0 := by omega
        have e3 : IntKind.u64.wrap d0 = d0 := by rw [IntKind.wrap_u64]; omega
        obtain ⟨M, hM⟩ : ∃ o, subL L [dd] = o := ⟨_, rfl⟩
        have n1 : num [dd] = dd := by simp [num, low, nth, wp]
        have hnM : num M = 2 * 128 * nx 128 (num L) := by
          have hr := wp_room n
          have hlt := HI.out.2.2.1
          rw [← hM, subL, HI.out.2.1, show max (n + 1) [dd].length = n + 1 from Nat.max_eq_left (by simp), n1, num_wd_of (by omega) (by omega)]
          omega
        have HM : Keep (Words M ∧ M.length = n + 1 ∧ num M / 256 = nx 128 (num L)) := ⟨by rw [← hM]; exact wd_words _ _, by rw [← hM, subL, wd_len, HI.out.2.1]; exact Nat.max_eq_left (by simp), by rw [hnM]; exact Int.mul_ediv_cancel_left _ (by decide)⟩
        have HDS : Keep (D ++ dgt :: digs 128 g (nx 128 (num L)) = res) := ⟨by rw [← hdig]; exact hds⟩
        have PA : Keep (∀ (y : World) (g' : Nat), Rd y y.heap.size (some ⟨gl, 0, none⟩) (n + 1) .u64 L → Has y g' 23 (vals .u64 [dd]) → Calls Try.prog 40 #[.slice (some ⟨gl, 0, none⟩) (n + 1) c6, .slice (some ⟨g', 0, none⟩) 1 1] y fun e y' => ∃ A9 c9, e = .returned (.tuple #[.slice A9 (n + 1) c9, .int .u64 (subC L [dd])]) ∧ Own y' y.heap.size 23 .u64 A9 (n + 1) c9 M ∧ Below y.heap.size y y') := ⟨fun y g' h h' => by
          have h1 := refSub_c (some ⟨gl, 0, none⟩) (n + 1) c6 L (some ⟨g', 0, none⟩) 1 1 [dd] y.heap.size y h HI.out.1 (Rd.of_has h' h'.lt (by rfl) (by simp)) (words_one (by omega) (by omega)) (Nat.le_refl _) (by have := HN.out; omega) (by omega)
          rw [hM, show max (n + 1) 1 = n + 1 from Nat.max_eq_left (by omega)] at h1
          exact h1⟩
        obtain ⟨cc, hcc⟩ : ∃ o, subC L [dd] = o := ⟨_, rfl⟩
        rw [hcc] at PA
        clear hnx hnl hn0 hdb hcl hmod hds hdig hv0 hz hd0 hx0 hM n1 hnM hcc
        rw [e4] at PA
        clear e4 hdd bdd
        have HDG : dgt = d0 := hdg.symm
        subst HDG
        go_wp2_with (first
          | (refine append_abs2 (by rfl) (.tmp 66) (.tmp 68) 40 (by rfl) S 3 .i64 8 Try.underlying40 i64Elem A7 m c7 D (by rfl) (hoD20.keep ((Below.refl _ _).alloc (Nat.le_refl _) _)) (w20.heap.size + 1) (some ⟨w20.heap.size, 0, none⟩) 1 1 [dgt] (by rfl) (Rd.of_has (Has.new w20 3 (vals .i64 [dgt])) (by omega) (by rfl) (by simp)) (m + 1) (by rfl) (D ++ [dgt]) (by rfl) (by have := NX.out.2.1; have := HN.out; omega) (by have := NX.out.2.1; have := HN.out; unfold maxLen; omega) (by have := HSS.out _ hb20; simp; omega) ?_
             intro A8 c8 w21 hoE21 hbx hsame
             have hal := (Below.refl w20.heap.size w20).alloc (Nat.le_refl _) (.cells (vals .i64 [dgt]) 3)
             have hoM21 := own_base (own_far (hoM20.keep hal) (fun g' hA => by
               cases hA
               exact hsame _ (by simp; omega) (fun g2 hA2 => by subst hA2; exact own_ne hoM20 hoD20 tne))) (HSS.out _ hb)
             have hb21 := (hb20.alloc (HSS.out _ hb20) (.cells (vals .i64 [dgt]) 3)).trans hbx
             clear hbx hsame hal hoM20 hoD20 hb20)
          | (go_at_call 40
             have hal := (Below.refl wr.heap.size wr).alloc (Nat.le_refl _) (.cells (vals .u64 [dgt]) 23)
             refine (PA.out _ wr.heap.size (rd_here hrL hal) (Has.new _ _ _)).mono ?_
             rintro e w20 ⟨A9, c9, rfl, hoM20', hq⟩
             have hbe := hal.trans (hq.mono hal.size)
             have hoM20 := own_base (b' := wr.heap.size) hoM20' hal.size
             obtain ⟨gm, rfl, hgm0, hgm1, hgm2, -, -⟩ := hoM20.at_ (by omega)
             have hoD20 := hoD.keep hbe
             have hb20 := hb.trans (hbe.mono (HSS.out _ hb))
             clear hal hq hbe hoM20' hoL hoD hrL)
          | (go_at_call 45; refine (CM.out _ hrL).mono ?_; rintro e w' ⟨rfl, rfl⟩))
        go_loopg [13] (n + 1) (fun (gk : Nat) vi wr => ∃ k : Nat, k + gk = n + 1 ∧ vi = .int .i64 k ∧ Own wr S 23 .u64 (some ⟨gm, 0, none⟩) (n + 1) c9 (fill (n + 1) (shw M 256 72057594037927936) (nth M) k) ∧ Own wr S 3 .i64 A8 (m + 1) c8 (D ++ [dgt]) ∧ Below S w wr)
        case atStart => exact ⟨0, by omega, rfl, by rw [fill_zero _ _ _ HM.out.2.1]; exact hoM21, hoE21, hb21⟩
        case round =>
          clear hoM21 hoE21 hb21
          obtain ⟨k, hk, rfl, hoP, hoE, hb5⟩ := hrel
          by_cases hlt : k < n + 1
          · obtain ⟨j, rfl⟩ : ∃ j, gk = j + 1 := ⟨gk - 1, by omega⟩
            obtain ⟨x, hx⟩ : ∃ x, nth M k = x := ⟨_, rfl⟩
            obtain ⟨y, hy⟩ : ∃ y, nth M (k + 1) = y := ⟨_, rfl⟩
            have bx := HM.out.1 k
            have by' := HM.out.1 (k + 1)
            rw [hx] at bx
            rw [hy] at by'
            have hcx : nth (fill (n + 1) (shw M 256 72057594037927936) (nth M) k) k = x := by rw [fill_nth _ _ _ hlt, if_neg (by omega)]; exact hx
            have hcy : nth (fill (n + 1) (shw M 256 72057594037927936) (nth M) k) (k + 1) = y := by
              rcases Nat.lt_or_ge (k + 1) (n + 1) with h | h
              · rw [fill_nth _ _ _ h, if_neg (by omega)]; exact hy
              · rw [nth_ge (by rw [fill_len]; exact h), ← hy, nth_ge (by rw [HM.out.2.1]; exact h)]
            obtain ⟨z, hz⟩ : ∃ z, shw M 256 72057594037927936 k = z := ⟨_, rfl⟩
            have hzz : x / 256 + y % 256 * 72057594037927936 = z := by rw [← hz, ← hx, ← hy]; rfl
            have bz := shw_word HM.out.1 (B := 256) (C := 72057594037927936) (by decide) (by decide) (by decide) k
            rw [hz] at bz
            obtain ⟨P, hP⟩ : ∃ P, fill (n + 1) (shw M 256 72057594037927936) (nth M) k = P := ⟨_, rfl⟩
            rw [hP] at hoP hcx hcy
            have HP : Keep (P.set k z = fill (n + 1) (shw M 256 72057594037927936) (nth M) (k + 1)) := ⟨by rw [← hP]; exact fill_set _ _ hlt hz.symm⟩
            obtain ⟨hgs, hcP, -⟩ := own_cells hoP (Nat.succ_pos n)
            have hck := hcP k hlt
            rw [hcx] at hck
            have AT : Keep (∀ y' : World, Rd y' y'.heap.size (some ⟨gm, 0, none⟩) (n + 1) .u64 P → Calls Try.prog 52 #[.slice (some ⟨gm, 0, none⟩) (n + 1) c9, .int .i64 ((k : Int) + 1)] y' fun e y2 => e = .returned (.int .u64 y) ∧ Below y'.heap.size y' y2) := ⟨fun y' h => by
              have h1 := at_c (some ⟨gm, 0, none⟩) (n + 1) c9 P y'.heap.size (k + 1) y' h
              rw [hcy] at h1
              exact h1.mono fun e x' ⟨he, hx⟩ => ⟨he, hx ▸ Below.refl _ _⟩⟩
            have hrP := hoP.rd
            have hk1 : wrap64 ((k : Int) + 1) = (k : Int) + 1 := by have := HN.out; unfold wrap64; omega
            have HK2 : Keep (wrap64 ((k : Int) + 1) = ((k + 1 : Nat) : Int)) := ⟨hk1⟩
            obtain ⟨yc, hyc⟩ : ∃ v, y % 256 * 72057594037927936 = v := ⟨_, rfl⟩
            have hsh : IntKind.u64.wrap (y * 72057594037927936) = yc := by rw [IntKind.wrap_u64]; omega
            have hsm : IntKind.u64.wrap (x / 256 + yc) = z := by rw [IntKind.wrap_u64]; omega
            clear hzz hyc bx by' bz
            clear hz hx hy hP hcx hcy hcP
            go_wp2
            refine wp_fam 19 (by kernel_rfl) (by kernel_rfl) (fun I hI' fw hf hback => ?_)
            simp only [List.take_succ_cons, List.take_zero, List.drop_succ_cons, List.drop_zero]
            have c0 : ∀ j, (fw j).cell? ⟨gm, k, none⟩ = some (.int .u64 x) := fun j => ((hf j).cell (p := ⟨gm, k, none⟩) hgs).trans hck
            repeat (first | go_big_quiet_step (first | fail | (go_at_call 52; with_reducible exact calls_fam hf hback (AT.out _ (rd_here hrP (hf _))))))
            refine wpQuiet_nil ?_
            intro w6 hb6
            clear hsh hsm hk1
            have hoP6 := hoP.keep hb6
            have hoE6 := hoE.keep hb6
            have hbb6 := hb5.trans (hb6.mono (HSS.out _ hb5))
            clear c0 hf hback hb6 hck hrP hoP hoE hb5 AT
            obtain ⟨hgs6, hcP6, hfP6⟩ := own_cells hoP6 (Nat.succ_pos n)
            have co := hcP6 k hlt
            have zo := hfP6 k
            have hoP7 := hoP6.set_ hlt z
            rw [HP.out] at hoP7
            have hoE7 := own_far (w' := w6.setCell ⟨gm, k, none⟩ (.int .u64 z)) hoE6 (fun g' hA => heap_setCell_other w6 _ _ _ (by subst hA; exact (own_ne hoP6 hoE6 tne).symm))
            have hb7 := hbb6.setCell (p := ⟨gm, k, none⟩) (Nat.le_trans (HSS.out _ hb) hgm0) (.int .u64 z)
            clear hcP6 hfP6 hoP6 hoE6 hbb6
            go_wp2
            go_roundg j
            case measure => exact Nat.lt_succ_self _
            case rel => exact ⟨k + 1, by rw [Nat.add_assoc, Nat.add_comm 1 j]; exact hk, by first | rfl | rw [HK2.out], hoP7, hoE7, hb7⟩
          · obtain rfl : gk = 0 := by omega
            obtain rfl : k = n + 1 := by omega
            have eP : fill (n + 1) (shw M 256 72057594037927936) (nth M) (n + 1) = tab (n + 1) (shw M 256 72057594037927936) := fill_all_ _ _ _
            rw [eP] at hoP
            have hnum := shift_num HM.out.2.1 (B := 256) (C := 72057594037927936) (by decide) (by decide)
            rw [HM.out.2.2] at hnum
            have HR : Keep (Words (tab (n + 1) (shw M 256 72057594037927936)) ∧ (tab (n + 1) (shw M 256 72057594037927936)).length = n + 1 ∧ num (tab (n + 1) (shw M 256 72057594037927936)) < wp n ∧ num (tab (n + 1) (shw M 256 72057594037927936)) < 2 ^ g ∧ m + 1 + g ≤ 64 * n ∧ (D ++ [dgt]) ++ digs 128 g (num (tab (n + 1) (shw M 256 72057594037927936))) = res) := ⟨words_of _ (fun i hi => by
              rw [tab_len] at hi
              rw [tab_nth _ hi]
              exact shw_word HM.out.1 (by decide) (by decide) (by decide) i), tab_len _ _, by rw [hnum]; exact NX.out.2.2.2, by rw [hnum]; exact NX.out.1, NX.out.2.1, by rw [hnum, List.append_assoc]; exact HDS.out⟩
            clear eP hnum
            go_wp2
            go_roundg g
            case measure => omega
            case rel => exact ⟨_, _, _, _, _, _, _, rfl, rfl, hoP, hoE, HR, hb5⟩

set_option maxRecDepth 100000 in
set_option maxHeartbeats 2000000 in
theorem refWindows_no (A : Option Addr) (n c : Nat) (v : Int) (w : World) (hv : v < 2 ∨ 8 < v) : Calls Try.prog 31 #[.slice A n c, .int .i64 v] w fun e w' => e = .returned (.tuple #[.slice none 0 0, .int .i64 1]) ∧ Below w.heap.size w w' := by
  have hb := Below.refl w.heap.size w
  by_cases h : v < 2
  · clear hv
    go_enter Try.func31, Try.ntmps31
    go_wp2
    go_ret2
    exact ⟨rfl, hb⟩
  · have h8 : 8 < v := by omega
    clear hv
    go_enter Try.func31, Try.ntmps31
    go_wp2
    go_ret2
    exact ⟨rfl, hb⟩

end Go.Proofs.Ythaoebamnlmfpaa.Fr
