/-
  Own text. The walk of the statement ShaOwn.
-/
import Derived.Test.YtfkhoddlfghiaaaShaLaws
namespace Go.Proofs.Ytfkhoddlfghiaaa.Sha
open Go Go.RowKit Go.Proofs.Ytfkhoddlfghiaaa.Reg

theorem padL_take (bs : List Int) : bs = ((padL bs).drop 0).take bs.length := by
  have := padLen_le bs.length
  refine ext_nth (by simp [padL_len]; omega) fun i hi => ?_
  have h1 : nth (((padL bs).drop 0).take bs.length) i = nth (padL bs) i := by simp [nth, List.getElem?_take_of_lt hi]
  rw [h1, padL, tab_nth _ (by omega), padF, if_pos hi]

set_option maxRecDepth 100000 in
set_option maxHeartbeats 2000000 in
theorem own_big (A : Option Addr) (n c : Nat) (w : World) (hn : 2000 < n) : Calls Try.prog 7 #[.slice A n c] w fun e w' => e = .returned (.bool true) ∧ Below w.heap.size w w' := by
  go_enter Try.func7, Try.ntmps7
  go_wp2_with (go_at_call 8; refine (awake_c _).mono ?_; rintro e w1 ⟨rfl, hb1⟩)
  go_ret
  exact ⟨rfl, hb1⟩

set_option maxRecDepth 100000 in
set_option maxHeartbeats 2000000 in
theorem own_small (A : Option Addr) (n c : Nat) (bs : List Int) (w : World) (hr : Rd w w.heap.size A n .u8 bs) (hby : Bytes bs) (hn : ¬ 2000 < n) : Calls Try.prog 7 #[.slice A n c] w fun e w' => e = .returned (.bool true) ∧ Below w.heap.size w w' := by
  obtain ⟨p, hp⟩ : ∃ p, padL bs = p := ⟨_, rfl⟩
  have hpl := padLen_le n
  obtain ⟨L, hL⟩ : ∃ L, padLen n = L := ⟨_, rfl⟩
  have hpp : p.length = L := by rw [← hp, padL_len, hr.len, hL]
  have htk : bs = (p.drop 0).take n := by rw [← hp, ← hr.len]; exact padL_take bs
  rw [hL] at hpl
  have HP : Keep _ := ⟨hp⟩
  have HL : Keep _ := ⟨hL⟩
  have PP : Keep _ := ⟨hpp⟩
  have TK : Keep _ := ⟨htk⟩
  have BY : Keep _ := ⟨hby⟩
  obtain ⟨hpl1, hpl2⟩ := hpl
  clear hp hL hpp htk hby
  go_enter Try.func7, Try.ntmps7
  go_wp2_with (first
    | (go_at_call 8
       refine (awake_c _).mono ?_
       rintro e w1 ⟨rfl, hb1⟩
       have hr1 := hr.keep hb1 (Nat.le_refl _))
    | (refine append_abs (by rfl) (.tmp 15) (.tmp 16) 22 (by rfl) w1.heap.size 5 .u8 1 Try.underlying22 u8Elem (some ⟨w1.heap.size, 0, none⟩) 0 0 [] (by rfl) (Own.of_has (Has.new w1 5 (vals .u8 [])) (Nat.le_refl _) (Nat.zero_le _)) w.heap.size A n c bs (by rfl) (hr1.keep ((Below.refl w1.heap.size w1).alloc (Nat.le_refl _) _) hb1.size) n (Nat.zero_add n) bs (by rfl) (by omega) (by unfold maxLen; omega) (by simp) ?_
       intro A2 c2 w2 ho2 hb2
       have hbe := ((Below.refl w1.heap.size w1).alloc (Nat.le_refl _) (.cells (vals .u8 []) 5)).trans hb2
       have hr2 := hr1.keep hbe hb1.size
       have hbb2 := hb1.trans (hbe.mono hb1.size)
       have hm2 := ho2.rd
       clear hbe hb2 hr1 hb1 ho2)
    | (go_at_call 10
       refine (pad_c A2 n c2 bs w2.heap.size w2 hm2 (Nat.le_refl _) (by omega)).mono ?_
       rintro e w3 ⟨rfl, hP3, hb3⟩
       rw [HP.out] at hP3
       rw [HL.out]
       have hr3 := hr2.keep hb3 hbb2.size
       have hm3 := hm2.keep hb3 (Nat.le_refl _)
       have hbb3 := hbb2.trans (hb3.mono hbb2.size)
       clear hr2 hm2 hb3)
    | (go_at_call 12
       refine (sum_c A2 n c2 bs w2.heap.size w3 hm3 BY.out (Nat.le_of_lt hP3.lt) (by omega)).mono ?_
       rintro e w4 ⟨rfl, hb4⟩
       have hP4 := hP3.keep hb4
       have hr4 := hr3.keep hb4 hbb3.size
       have hm4 := hm3.keep hb4 (Nat.le_of_lt hP3.lt)
       have hbb4 := hbb3.trans (hb4.mono hbb3.size)
       clear hr3 hm3 hb4 hP3 hbb3))
  go_loopw [6] (fun i wr => ∃ (k : Nat) (l : List Int), k ≤ L ∧ i = .int .i64 k ∧ l.length = L ∧ Has wr w2.heap.size 5 (vals .u8 l) ∧ Below w2.heap.size w4 wr) (fun i _ => L - (intOf i).toNat)
  case atStart => exact ⟨0, p, Nat.zero_le _, rfl, PP.out, hP4, Below.refl _ _⟩
  case round =>
    clear hP4
    obtain ⟨k, l, hk, rfl, hll, hP, hb⟩ := hrel
    have LL : Keep _ := ⟨hll⟩
    clear hll
    by_cases hlt : k < L
    · have ck := hP.val (i := k) (by rw [LL.out]; exact hlt)
      have zk := hP.frozen k
      go_wp2
      go_roundw
      case rel =>
        refine ⟨k + 1, l.set k 99, by omega, by go_num, by rw [List.length_set]; exact LL.out, ?_, hb.setCell (Nat.le_refl _) _⟩
        have := hP.set_ k (.int .u8 99)
        rwa [vals_set] at this
      case measure => simp [intOf]; omega
    · have ek : k = L := by omega
      subst ek
      have hr5 := hr4.keep hb hbb2.size
      have hm5 := hm4.keep hb (Nat.le_refl _)
      have hbb5 := hbb4.trans (hb.mono hbb2.size)
      have hsz := hP.lt
      clear hr4 hm4 hbb4 hP hb hlt hk
      go_wp2_with fail
      refine (same_c A2 A n c2 n c bs bs w2.heap.size w.heap.size _ hm5 (Nat.le_of_lt hsz) hr5 hbb5.size (by omega) (by omega)).mono ?_
      rintro e w6 ⟨rfl, hb6⟩
      rw [decide_eq_true (rfl : bs = bs)]
      have hr6 := hr5.keep hb6 hbb5.size
      have hm6 := hm5.keep hb6 (Nat.le_of_lt hsz)
      have hbb6 := hbb5.trans (hb6.mono hbb5.size)
      have hsz6 := Nat.lt_of_lt_of_le hsz hb6.size
      clear hr5 hm5 hbb5 hb6 hsz
      go_wp2_with fail
      refine (pad_c A2 n c2 bs w2.heap.size w6 hm6 (Nat.le_of_lt hsz6) (by omega)).mono ?_
      rintro e w7 ⟨rfl, hP7, hb7⟩
      rw [HP.out] at hP7
      rw [HL.out]
      have hr7 := hr6.keep hb7 hbb6.size
      have hbb7 := hbb6.trans (hb7.mono hbb6.size)
      clear hr6 hm6 hbb6 hb7 hsz6
      go_wp2_with fail
      refine (same_c (some ⟨w6.heap.size, 0, none⟩) A n _ n c bs bs w7.heap.size w.heap.size w7 (Rd.of_has hP7 hP7.lt TK.out (by rw [PP.out]; omega)) (Nat.le_refl _) hr7 hbb7.size (by omega) (by omega)).mono ?_
      rintro e w8 ⟨rfl, hb8⟩
      rw [decide_eq_true (rfl : bs = bs)]
      go_wp2_with fail
      go_ret
      exact ⟨rfl, hbb7.trans (hb8.mono hbb7.size)⟩

theorem own_w {w : World} {a : Option Addr} {len : Nat} (cap : Nat) {bs : List Int} (h : Rd w w.heap.size a len .u8 bs ∧ Bytes bs) : Calls Try.prog 7 #[.slice a len cap] w fun e w' => e = .returned (.bool true) ∧ Below w.heap.size w w' := by
  by_cases hn : 2000 < len
  · exact own_big a len cap w hn
  · exact own_small a len cap bs w h.1 h.2 hn
end Go.Proofs.Ytfkhoddlfghiaaa.Sha
