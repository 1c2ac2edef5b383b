/-
  Own text. The contract of math/bits' Div64, whatever the divisor: its quotient.
-/
import Derived.Test.YtpgphhinelljoaaDoorBitsB
import Derived.Test.YtpgphhinelljoaaDoorBits
import Derived.Deep.LoopGhost
namespace Go.Proofs.YtpgphhinelljoaaDoor.Bits
open Go Go.RowKit Go.Proofs.YtpgphhinelljoaaDoor.Reg Go.Proofs.YtpgphhinelljoaaDoor.Base

section
variable {U V u u0 u1 n1 n0 y Y q q0 q1 r hi lo P : Int}
theorem div_atoms {N : Int} (hy : 0 < Y) (h : N / Y = q) : q * Y ≤ N ∧ N < q * Y + Y := by
  have h1 := Int.ediv_mul_le N (Int.ne_of_gt hy)
  have h2 := Int.lt_ediv_add_one_mul_self N hy
  rw [h] at h1 h2
  rw [Int.add_mul, Int.one_mul] at h2
  exact ⟨h1, h2⟩
theorem mul_small (hq0 : 0 ≤ q) (hq : q < 4294967296) (h0 : 0 ≤ n0) (h1 : n0 < 4294967296) : 0 ≤ q * n0 ∧ q * n0 ≤ 18446744065119617025 := by
  refine ⟨Int.mul_nonneg hq0 h0, ?_⟩
  have h2 : q * n0 ≤ q * 4294967295 := Int.mul_le_mul_of_nonneg_left (by omega) hq0
  omega
theorem dq_pos (hq0 : 0 ≤ q) (hz : 0 ≤ P) (h : P < q * n0) : 1 ≤ q := by
  rcases Int.lt_or_le 0 q with h1 | h1
  · omega
  · obtain rfl : q = 0 := by omega
    rw [Int.zero_mul] at h
    omega
theorem prod_y (hy : Y = n1 * 4294967296 + n0) (q : Int) : q * Y = q * n1 * 4294967296 + q * n0 := by rw [hy]; grind
theorem dq_init (h1 : 2147483648 ≤ n1) (h0 : 0 ≤ n0) (hy : Y = n1 * 4294967296 + n0) (hU : 0 ≤ U) (hu0 : 0 ≤ u) (hu1 : u < 4294967296) : (U * 4294967296 + u) / Y ≤ U / n1 := by
  have hyp : 0 < Y := by omega
  refine Int.le_ediv_of_mul_le (by omega) ?_
  obtain ⟨q, hq⟩ : ∃ q, (U * 4294967296 + u) / Y = q := ⟨_, rfl⟩
  have ha := div_atoms hyp hq
  have hq0 : 0 ≤ q := by rw [← hq]; exact Int.ediv_nonneg (by omega) (by omega)
  rw [hq]
  rw [prod_y hy] at ha
  have h2 : 0 ≤ q * n0 := Int.mul_nonneg hq0 h0
  omega
theorem dq_less (hy : Y = n1 * 4294967296 + n0) (hyp : 0 < Y) (hE : q * n1 + r = U) (h : 4294967296 * r + u < q * n0) : (U * 4294967296 + u) / Y ≤ q - 1 := by
  have : (U * 4294967296 + u) / Y < q := Int.ediv_lt_of_lt_mul hyp (by rw [prod_y hy]; omega)
  omega
theorem dq_big (hyp : 0 < Y) (hU : U < Y) (hu : u < 4294967296) (hq : 4294967296 ≤ q) : (U * 4294967296 + u) / Y ≤ q - 1 := by
  have : (U * 4294967296 + u) / Y < 4294967296 := Int.ediv_lt_of_lt_mul hyp (by omega)
  omega
theorem dq_fit (hy : Y = n1 * 4294967296 + n0) (hyp : 0 < Y) (hE : q * n1 + r = U) (h : q * n0 ≤ 4294967296 * r + u) (hQ : (U * 4294967296 + u) / Y ≤ q) : (U * 4294967296 + u) / Y = q := by
  have : q ≤ (U * 4294967296 + u) / Y := Int.le_ediv_of_mul_le hyp (by rw [prod_y hy]; omega)
  omega
theorem dq_over (hy : Y = n1 * 4294967296 + n0) (hyp : 0 < Y) (hE : q * n1 + r = U) (hr : 4294967296 ≤ r) (hq : q ≤ 4294967296) (hq0 : 0 ≤ q) (h0 : 0 ≤ n0) (h1 : n0 < 4294967296) (hu : 0 ≤ u) (hQ : (U * 4294967296 + u) / Y ≤ q) : (U * 4294967296 + u) / Y = q := by
  refine dq_fit hy hyp hE ?_ hQ
  have h2 : q * n0 ≤ q * 4294967295 := Int.mul_le_mul_of_nonneg_left (by omega) hq0
  omega
theorem dq_small (hE : q * n1 + r = U) (hy : Y = n1 * 4294967296 + n0) (_hyp : 0 < Y) (hU : U < Y) (h1 : 2147483648 ≤ n1) (_hq0 : 0 ≤ q) (hr : 4294967296 ≤ r) (h2 : n0 < 4294967296) : q ≤ 4294967296 := by
  rcases Int.lt_or_le 4294967296 q with h | h
  · have h3 : 4294967296 * n1 ≤ q * n1 := Int.mul_le_mul_of_nonneg_right (by omega) (by omega)
    omega
  · exact h
theorem dq_range (hyp : 0 < Y) (h0 : 0 ≤ U) (h1 : U < Y) (h2 : 0 ≤ u) (h3 : u < 4294967296) (h : (U * 4294967296 + u) / Y = q) : 0 ≤ q ∧ q < 4294967296 := by
  rw [← h]
  exact ⟨Int.ediv_nonneg (by omega) (by omega), Int.ediv_lt_of_lt_mul hyp (by omega)⟩
theorem div_parts (h0 : 0 ≤ V) (h1 : V < 18446744073709551616) (hn : 2147483648 ≤ n1) : 0 ≤ V / n1 ∧ V / n1 ≤ 8589934592 ∧ 0 ≤ V / n1 * n1 ∧ V / n1 * n1 ≤ V ∧ V < V / n1 * n1 + n1 := by
  have a := div_atoms (show 0 < n1 by omega) (rfl : V / n1 = V / n1)
  have b : 0 ≤ V / n1 := Int.ediv_nonneg h0 (by omega)
  refine ⟨b, ?_, Int.mul_nonneg b (by omega), a.1, a.2⟩
  have : V / n1 < 8589934593 := Int.ediv_lt_of_lt_mul (by omega) (by omega)
  omega
theorem dq_fin {S : Int} (hyp : 0 < Y) (hS : 0 < S) (hY : Y = y * S) (hN : U * 4294967296 * 4294967296 + u1 * 4294967296 + u0 = (hi * 18446744073709551616 + lo) * S) (hV : V = U * 4294967296 + u1 - q1 * Y) (h : (V * 4294967296 + u0) / Y = q0) : q1 * 4294967296 + q0 = (hi * 18446744073709551616 + lo) / y := by
  have e : (hi * 18446744073709551616 + lo) * S = (V * 4294967296 + u0) + (q1 * 4294967296) * Y := by rw [← hN, hV]; grind
  have e2 : (hi * 18446744073709551616 + lo) / y = (hi * 18446744073709551616 + lo) * S / Y := by rw [hY, Int.mul_ediv_mul_of_pos_left _ _ hS]
  rw [e2, e, Int.add_mul_ediv_right _ _ (Int.ne_of_gt hyp), h]
  omega
end
/-- How a word's upper part and its rest lie when it is shifted. -/
theorem shl_parts {lo : Int} (h0 : 0 ≤ lo) (h1 : lo ≤ 18446744073709551615) {s : Nat} (hs : s ≤ 63) : lo * 2 ^ s = lo / 2 ^ (64 - s) * 18446744073709551616 + lo * 2 ^ s % 18446744073709551616 ∧ 0 ≤ lo / 2 ^ (64 - s) ∧ lo / 2 ^ (64 - s) < 2 ^ s := by
  have eW : (18446744073709551616 : Int) = 2 ^ s * 2 ^ (64 - s) := by rw [← Int.pow_add, show s + (64 - s) = 64 by omega]; rfl
  have p1 : (0 : Int) < 2 ^ s := Int.pow_pos (by omega)
  have p2 : (0 : Int) < 2 ^ (64 - s) := Int.pow_pos (by omega)
  have e : lo * 2 ^ s / 18446744073709551616 = lo / 2 ^ (64 - s) := by
    rw [eW, Int.mul_comm lo, Int.mul_ediv_mul_of_pos _ _ p1]
  refine ⟨?_, Int.ediv_nonneg h0 (Int.le_of_lt p2), Int.ediv_lt_of_lt_mul p2 (by rw [← eW]; omega)⟩
  rw [← e]
  have := Int.mul_ediv_add_emod (lo * 2 ^ s) 18446744073709551616
  omega

set_option maxRecDepth 100000 in
set_option maxHeartbeats 16000000 in
theorem div64_any (hi lo y : Int) (hh0 : 0 ≤ hi) (hh1 : hi < y) (hl0 : 0 ≤ lo) (hl1 : lo ≤ 18446744073709551615) (hy1 : y ≤ 18446744073709551615) (w : World) :
    Calls Tryd.prog 98 #[.int .u64 hi, .int .u64 lo, .int .u64 y] w fun e w' => ∃ z, e = .returned (.tuple #[.int .u64 ((hi * 18446744073709551616 + lo) / y), .int .u64 z]) ∧ Below w.heap.size w w' := by
  have hyne : (y == 0) = false := by rw [beq_eq_false_iff_ne]; omega
  have hyz : ¬ y = 0 := by omega
  have hhy : ¬ y ≤ hi := by omega
  by_cases hz : hi = 0
  · subst hz
    have e1 : (0 * 18446744073709551616 + lo) = lo := by omega
    rw [e1]
    obtain ⟨Q, hQ⟩ : ∃ z, IntKind.u64.wrap (lo.tdiv y) = z := ⟨_, rfl⟩
    obtain ⟨R, hR⟩ : ∃ z, IntKind.u64.wrap (lo.tmod y) = z := ⟨_, rfl⟩
    have hq0 : 0 ≤ lo / y := Int.ediv_nonneg hl0 (by omega)
    have hq1 : lo / y ≤ lo := Int.ediv_le_self _ hl0
    have eQ : Keep (Q = lo / y) := ⟨by rw [← hQ, Int.tdiv_eq_ediv_of_nonneg hl0, IntKind.wrap_u64]; omega⟩
    clear hq0 hq1
    go_enter Tryd.func98, Tryd.ntmps98
    go_wp2
    refine wp_fam_all (by kernel_rfl) (by kernel_rfl) (fun I hI' fw hf hback => ?_)
    repeat (go_big_quiet_step (fail))
    refine wpQuiet_nil ?_
    intro w6 hb6
    go_wp2
    go_ret2
    exact ⟨_, ret_eq (by rw [← eQ.out]; rfl), hb6⟩
  · have hze : (hi == 0) = false := by rw [beq_eq_false_iff_ne]; exact hz
    obtain ⟨s, hs, hs63, hy2, hy3⟩ := blen_spec (x := y) (by omega) hy1
    have LZ : Keep _ := ⟨lz64_c y (by omega) hy1 s hs⟩
    have hps : (0 : Int) < 2 ^ s := Int.pow_pos (by omega)
    have hsp := shl_parts hl0 hl1 hs63
    obtain ⟨Y, hY⟩ : ∃ z, IntKind.u64.wrap (y * 2 ^ s) = z := ⟨_, rfl⟩
    have eY : Y = y * 2 ^ s := by rw [← hY, IntKind.wrap_u64]; omega
    have hhs : hi * 2 ^ s + 2 ^ s ≤ y * 2 ^ s := by
      have : (hi + 1) * 2 ^ s ≤ y * 2 ^ s := Int.mul_le_mul_of_nonneg_right (by omega) (by omega)
      rw [Int.add_mul, Int.one_mul] at this
      exact this
    have hhs0 : 0 ≤ hi * 2 ^ s := Int.mul_nonneg hh0 (by omega)
    have hH : IntKind.u64.wrap (hi * 2 ^ s) = hi * 2 ^ s := by rw [IntKind.wrap_u64]; omega
    obtain ⟨U, hU⟩ : ∃ z, bits .or .u64 (hi * 2 ^ s) (lo / 2 ^ (64 - s)) = z := ⟨_, rfl⟩
    have eU : U = hi * 2 ^ s + lo / 2 ^ (64 - s) := by
      rw [← hU]
      exact bits_join .u64 64 (by decide) (fun n h0 h1 => by rw [IntKind.wrap_u64]; omega) s _ _ hhs0 (Int.mul_emod_left _ _) (by omega) hsp.2.1 hsp.2.2 (by omega)
    obtain ⟨T, hT⟩ : ∃ z, IntKind.u64.wrap (lo * 2 ^ s) = z := ⟨_, rfl⟩
    have eT : T = lo * 2 ^ s % 18446744073709551616 := by rw [← hT, IntKind.wrap_u64]
    obtain ⟨u1, hu1⟩ : ∃ z, T / 4294967296 = z := ⟨_, rfl⟩
    obtain ⟨u0, hu0⟩ : ∃ z, bits .and .u64 T 4294967295 = z := ⟨_, rfl⟩
    have eu0 : u0 = T % 4294967296 := by rw [← hu0]; exact and_low32 T (by omega) (by omega)
    obtain ⟨n1, hn1⟩ : ∃ z, Y / 4294967296 = z := ⟨_, rfl⟩
    obtain ⟨n0, hn0⟩ : ∃ z, bits .and .u64 Y 4294967295 = z := ⟨_, rfl⟩
    have en0 : n0 = Y % 4294967296 := by rw [← hn0]; exact and_low32 Y (by omega) (by omega)
    have hYb : 9223372036854775808 ≤ Y ∧ Y < 18446744073709551616 := by omega
    have BY : Keep (9223372036854775808 ≤ Y ∧ Y < 18446744073709551616) := ⟨hYb⟩
    have NB : Keep (2147483648 ≤ n1 ∧ n1 < 4294967296 ∧ 0 ≤ n0 ∧ n0 < 4294967296 ∧ Y = n1 * 4294967296 + n0 ∧ 0 < Y) := ⟨by omega⟩
    have hnz : ¬ n1 = 0 := by have := NB.out; omega
    have NUM : Keep ((0 : Int) < 2 ^ s ∧ Y = y * 2 ^ s ∧ U * 4294967296 * 4294967296 + u1 * 4294967296 + u0 = (hi * 18446744073709551616 + lo) * 2 ^ s) := ⟨hps, eY, by
      rw [Int.add_mul, hsp.1, eU]
      have : hi * 18446744073709551616 * 2 ^ s = hi * 2 ^ s * 18446744073709551616 := by grind
      rw [this]
      omega⟩
    have hUb : 0 ≤ U ∧ U < Y := by omega
    have BU1 : Keep (0 ≤ U ∧ U < Y ∧ 0 ≤ u1 ∧ u1 < 4294967296) := ⟨by omega⟩
    have BU0 : Keep (0 ≤ u0 ∧ u0 < 4294967296) := ⟨by omega⟩
    obtain ⟨Q, hQ⟩ : ∃ z, IntKind.u64.wrap (U.tdiv n1) = z := ⟨_, rfl⟩
    have D1 := div_parts hUb.1 (show U < 18446744073709551616 by omega) NB.out.1
    have eQ : Q = U / n1 := by rw [← hQ, Int.tdiv_eq_ediv_of_nonneg hUb.1, IntKind.wrap_u64]; omega
    have hP : IntKind.u64.wrap (Q * n1) = Q * n1 := by rw [eQ, IntKind.wrap_u64]; omega
    obtain ⟨R, hR⟩ : ∃ z, IntKind.u64.wrap (U - Q * n1) = z := ⟨_, rfl⟩
    have eR : R = U - Q * n1 := by rw [← hR, eQ, IntKind.wrap_u64]; omega
    have S1 : Keep (0 ≤ Q ∧ Q ≤ 8589934592 ∧ 0 ≤ R ∧ R < 4294967296 ∧ Q * n1 + R = U ∧ (U * 4294967296 + u1) / Y ≤ Q) := ⟨by
      rw [eR, eQ]
      have h3 := dq_init (u := u1) NB.out.1 NB.out.2.2.1 NB.out.2.2.2.2.1 hUb.1 BU1.out.2.2.1 BU1.out.2.2.2
      have h4 := NB.out.2.1
      exact ⟨by omega, by omega, by omega, by omega, by omega, h3⟩⟩
    have hb1 : Below w.heap.size w w := Below.refl _ _
    clear eU eT eu0 en0 eQ eR hUb hYb eY hsp hps hhs hhs0 D1 hs hy2 hy3
    go_enter Tryd.func98, Tryd.ntmps98
    go_wp2_with (go_at_call 57; refine (LZ.out _).mono ?_; rintro e w' ⟨rfl, rfl⟩)
    go_loopg [15, 16] 8589934593 (fun (gk : Nat) vq vr wr => ∃ q r : Int, vq = .int .u64 q ∧ vr = .int .u64 r ∧ 0 ≤ q ∧ q ≤ 8589934592 ∧ 0 ≤ r ∧ r < 4294967296 ∧ Keep (q * n1 + r = U) ∧ Keep ((U * 4294967296 + u1) / Y ≤ q) ∧ q.toNat ≤ gk ∧ Below w.heap.size w wr)
    case atStart => exact ⟨Q, R, rfl, rfl, S1.out.1, S1.out.2.1, S1.out.2.2.1, S1.out.2.2.2.1, ⟨S1.out.2.2.2.2.1⟩, ⟨S1.out.2.2.2.2.2⟩, by have := S1.out; omega, hb1⟩
    case round =>
      clear hb1
      obtain ⟨q, r, rfl, rfl, hq0, hq1, hr0, hr1, HE, HQ, hg, hb⟩ := hrel
      have hwr : IntKind.u64.wrap (r + n1) = r + n1 := by rw [IntKind.wrap_u64]; have := NB.out; omega
      have hwm : IntKind.u64.wrap (4294967296 * r) = 4294967296 * r := by rw [IntKind.wrap_u64]; omega
      have hwa : IntKind.u64.wrap (4294967296 * r + u1) = 4294967296 * r + u1 := by rw [IntKind.wrap_u64]; have := BU1.out; omega
      rcases Int.lt_or_le q 4294967296 with h1 | h1
      · have hwq : IntKind.u64.wrap (q * n0) = q * n0 := by rw [IntKind.wrap_u64]; have := mul_small hq0 h1 NB.out.2.2.1 NB.out.2.2.2.1; omega
        rcases Int.lt_or_le (4294967296 * r + u1) (q * n0) with h2 | h2
        · have hpos : 1 ≤ q := dq_pos hq0 (by have := BU1.out; omega) h2
          have hwd : IntKind.u64.wrap (q - 1) = q - 1 := by rw [IntKind.wrap_u64]; omega
          have HE' : Keep ((q - 1) * n1 + (r + n1) = U) := ⟨by have := HE.out; rw [Int.sub_mul]; omega⟩
          have HQ' : Keep ((U * 4294967296 + u1) / Y ≤ q - 1) := ⟨dq_less NB.out.2.2.2.2.1 NB.out.2.2.2.2.2 HE.out h2⟩
          rcases Int.lt_or_le (r + n1) 4294967296 with h3 | h3
          · obtain ⟨m, rfl⟩ : ∃ m, gk = m + 1 := ⟨gk - 1, by omega⟩
            have hrn : 0 ≤ r + n1 := by have := NB.out; omega
            go_wp2
            go_roundg m
            case measure => omega
            case rel => exact ⟨q - 1, r + n1, rfl, rfl, by omega, by omega, hrn, h3, HE', HQ', by omega, hb⟩
          · have HF : Keep ((U * 4294967296 + u1) / Y = q - 1) := ⟨dq_over NB.out.2.2.2.2.1 NB.out.2.2.2.2.2 HE'.out h3 (by omega) (by omega) NB.out.2.2.1 NB.out.2.2.2.1 (by have := BU1.out; omega) HQ'.out⟩
            have hq0' : 0 ≤ q - 1 := by omega
            clear hq0 hq1 HE HQ HQ' HE' hg
            obtain ⟨q1, hq1⟩ : ∃ z, q - 1 = z := ⟨_, rfl⟩
            rw [hq1] at HF hq0' hwd
            have HF1 : Keep _ := ⟨HF.out⟩
            obtain ⟨A1, hA1⟩ : ∃ z, IntKind.u64.wrap (U * 4294967296) = z := ⟨_, rfl⟩
            obtain ⟨A2, hA2⟩ : ∃ z, IntKind.u64.wrap (A1 + u1) = z := ⟨_, rfl⟩
            obtain ⟨A3, hA3⟩ : ∃ z, IntKind.u64.wrap (q1 * Y) = z := ⟨_, rfl⟩
            obtain ⟨V, hV⟩ : ∃ z, IntKind.u64.wrap (A2 - A3) = z := ⟨_, rfl⟩
            have bv : V = U * 4294967296 + u1 - q1 * Y ∧ 0 ≤ V ∧ V < Y := by
              have h1 := div_atoms NB.out.2.2.2.2.2 HF1.out
              have h2 := BY.out
              rw [IntKind.wrap_u64] at hA1 hA2 hA3 hV
              generalize q1 * Y = p at *
              omega
            have HV : Keep _ := ⟨bv.1⟩
            obtain ⟨Q2, hQ2⟩ : ∃ z, IntKind.u64.wrap (V.tdiv n1) = z := ⟨_, rfl⟩
            have D2 := div_parts bv.2.1 (show V < 18446744073709551616 by have := BY.out; omega) NB.out.1
            have eQ2 : Q2 = V / n1 := by rw [← hQ2, Int.tdiv_eq_ediv_of_nonneg bv.2.1, IntKind.wrap_u64]; omega
            have hP2 : IntKind.u64.wrap (Q2 * n1) = Q2 * n1 := by rw [eQ2, IntKind.wrap_u64]; have := BY.out; omega
            obtain ⟨R2, hR2⟩ : ∃ z, IntKind.u64.wrap (V - Q2 * n1) = z := ⟨_, rfl⟩
            have eR2 : R2 = V - Q2 * n1 := by rw [← hR2, eQ2, IntKind.wrap_u64]; have := BY.out; omega
            have BU2 : Keep (0 ≤ V ∧ V < Y ∧ 0 ≤ u0 ∧ u0 < 4294967296) := ⟨bv.2.1, bv.2.2, BU0.out⟩
            have S2 : Keep (0 ≤ Q2 ∧ Q2 ≤ 8589934592 ∧ 0 ≤ R2 ∧ R2 < 4294967296 ∧ Q2 * n1 + R2 = V ∧ (V * 4294967296 + u0) / Y ≤ Q2) := ⟨by
              rw [eR2, eQ2]
              have h3 := dq_init (u := u0) NB.out.1 NB.out.2.2.1 NB.out.2.2.2.2.1 bv.2.1 BU0.out.1 BU0.out.2
              have h4 := NB.out.2.1
              exact ⟨by omega, by omega, by omega, by omega, by omega, h3⟩⟩
            have hb2 := hb
            clear bv eQ2 eR2 D2 hb
            go_wp2
            go_loopg [18, 16] 8589934593 (fun (gk : Nat) vq vr wr => ∃ q r : Int, vq = .int .u64 q ∧ vr = .int .u64 r ∧ 0 ≤ q ∧ q ≤ 8589934592 ∧ 0 ≤ r ∧ r < 4294967296 ∧ Keep (q * n1 + r = V) ∧ Keep ((V * 4294967296 + u0) / Y ≤ q) ∧ q.toNat ≤ gk ∧ Below w.heap.size w wr)
            case atStart => exact ⟨Q2, R2, rfl, rfl, S2.out.1, S2.out.2.1, S2.out.2.2.1, S2.out.2.2.2.1, ⟨S2.out.2.2.2.2.1⟩, ⟨S2.out.2.2.2.2.2⟩, by have := S2.out; omega, hb2⟩
            case round =>
              clear hb2
              obtain ⟨q, r, rfl, rfl, hq0, hq1, hr0, hr1, HE, HQ, hg, hb⟩ := hrel
              have hwr : IntKind.u64.wrap (r + n1) = r + n1 := by rw [IntKind.wrap_u64]; have := NB.out; omega
              have hwm : IntKind.u64.wrap (4294967296 * r) = 4294967296 * r := by rw [IntKind.wrap_u64]; omega
              have hwa : IntKind.u64.wrap (4294967296 * r + u0) = 4294967296 * r + u0 := by rw [IntKind.wrap_u64]; have := BU2.out; omega
              rcases Int.lt_or_le q 4294967296 with h1 | h1
              · have hwq : IntKind.u64.wrap (q * n0) = q * n0 := by rw [IntKind.wrap_u64]; have := mul_small hq0 h1 NB.out.2.2.1 NB.out.2.2.2.1; omega
                rcases Int.lt_or_le (4294967296 * r + u0) (q * n0) with h2 | h2
                · have hpos : 1 ≤ q := dq_pos hq0 (by have := BU2.out; omega) h2
                  have hwd : IntKind.u64.wrap (q - 1) = q - 1 := by rw [IntKind.wrap_u64]; omega
                  have HE' : Keep ((q - 1) * n1 + (r + n1) = V) := ⟨by have := HE.out; rw [Int.sub_mul]; omega⟩
                  have HQ' : Keep ((V * 4294967296 + u0) / Y ≤ q - 1) := ⟨dq_less NB.out.2.2.2.2.1 NB.out.2.2.2.2.2 HE.out h2⟩
                  rcases Int.lt_or_le (r + n1) 4294967296 with h3 | h3
                  · obtain ⟨m, rfl⟩ : ∃ m, gk = m + 1 := ⟨gk - 1, by omega⟩
                    have hrn : 0 ≤ r + n1 := by have := NB.out; omega
                    go_wp2
                    go_roundg m
                    case measure => omega
                    case rel => exact ⟨q - 1, r + n1, rfl, rfl, by omega, by omega, hrn, h3, HE', HQ', by omega, hb⟩
                  · have HF : Keep ((V * 4294967296 + u0) / Y = q - 1) := ⟨dq_over NB.out.2.2.2.2.1 NB.out.2.2.2.2.2 HE'.out h3 (by omega) (by omega) NB.out.2.2.1 NB.out.2.2.2.1 (by have := BU2.out; omega) HQ'.out⟩
                    have hq0' : 0 ≤ q - 1 := by omega
                    clear hq0 hq1 HE HQ HQ' HE' hg
                    obtain ⟨q2, hq2⟩ : ∃ z, q - 1 = z := ⟨_, rfl⟩
                    rw [hq2] at HF hq0' hwd
                    have bq0 : 0 ≤ q2 ∧ q2 < 4294967296 := dq_range NB.out.2.2.2.2.2 BU2.out.1 BU2.out.2.1 BU2.out.2.2.1 BU2.out.2.2.2 HF.out
                    have bq1 : 0 ≤ q1 ∧ q1 < 4294967296 := dq_range NB.out.2.2.2.2.2 BU1.out.1 BU1.out.2.1 BU1.out.2.2.1 BU1.out.2.2.2 HF1.out
                    have hC1 : IntKind.u64.wrap (q1 * 4294967296) = q1 * 4294967296 := by rw [IntKind.wrap_u64]; omega
                    have hC2 : IntKind.u64.wrap (q1 * 4294967296 + q2) = q1 * 4294967296 + q2 := by rw [IntKind.wrap_u64]; omega
                    have FIN : Keep (q1 * 4294967296 + q2 = (hi * 18446744073709551616 + lo) / y) := ⟨dq_fin NB.out.2.2.2.2.2 NUM.out.1 NUM.out.2.1 NUM.out.2.2 HV.out HF.out⟩
                    clear bq1 bq0
                    go_wp2
                    go_ret2
                    first
                      | exact ⟨_, ret_eq (by rw [← FIN.out]; rfl), hb⟩
                      | exact ⟨⟨_, ret_eq (by rw [← FIN.out]; rfl)⟩, hb⟩
                · have HF : Keep ((V * 4294967296 + u0) / Y = q) := ⟨dq_fit NB.out.2.2.2.2.1 NB.out.2.2.2.2.2 HE.out h2 HQ.out⟩
                  have hn1 : ¬ 4294967296 ≤ q := by omega
                  have hn2 : ¬ 4294967296 * r + u0 < q * n0 := by omega
                  have hq0' : 0 ≤ q := hq0
                  clear hq0 hq1 HE HQ hwr hg
                  obtain ⟨qaa, rfl⟩ : ∃ z, z = q := ⟨_, rfl⟩
                  have bq0 : 0 ≤ qaa ∧ qaa < 4294967296 := dq_range NB.out.2.2.2.2.2 BU2.out.1 BU2.out.2.1 BU2.out.2.2.1 BU2.out.2.2.2 HF.out
                  have bq1 : 0 ≤ q1 ∧ q1 < 4294967296 := dq_range NB.out.2.2.2.2.2 BU1.out.1 BU1.out.2.1 BU1.out.2.2.1 BU1.out.2.2.2 HF1.out
                  have hC1 : IntKind.u64.wrap (q1 * 4294967296) = q1 * 4294967296 := by rw [IntKind.wrap_u64]; omega
                  have hC2 : IntKind.u64.wrap (q1 * 4294967296 + qaa) = q1 * 4294967296 + qaa := by rw [IntKind.wrap_u64]; omega
                  have FIN : Keep (q1 * 4294967296 + qaa = (hi * 18446744073709551616 + lo) / y) := ⟨dq_fin NB.out.2.2.2.2.2 NUM.out.1 NUM.out.2.1 NUM.out.2.2 HV.out HF.out⟩
                  clear bq1 bq0
                  go_wp2
                  go_ret2
                  first
                    | exact ⟨_, ret_eq (by rw [← FIN.out]; rfl), hb⟩
                    | exact ⟨⟨_, ret_eq (by rw [← FIN.out]; rfl)⟩, hb⟩
              · have hpos : 1 ≤ q := by omega
                have hwd : IntKind.u64.wrap (q - 1) = q - 1 := by rw [IntKind.wrap_u64]; omega
                have HE' : Keep ((q - 1) * n1 + (r + n1) = V) := ⟨by have := HE.out; rw [Int.sub_mul]; omega⟩
                have HQ' : Keep ((V * 4294967296 + u0) / Y ≤ q - 1) := ⟨dq_big NB.out.2.2.2.2.2 (by have := BU2.out; omega) (by have := BU2.out; omega) h1⟩
                rcases Int.lt_or_le (r + n1) 4294967296 with h3 | h3
                · obtain ⟨m, rfl⟩ : ∃ m, gk = m + 1 := ⟨gk - 1, by omega⟩
                  have hrn : 0 ≤ r + n1 := by have := NB.out; omega
                  go_wp2
                  go_roundg m
                  case measure => omega
                  case rel => exact ⟨q - 1, r + n1, rfl, rfl, by omega, by omega, hrn, h3, HE', HQ', by omega, hb⟩
                · have hlt : q - 1 ≤ 4294967296 := dq_small HE'.out NB.out.2.2.2.2.1 NB.out.2.2.2.2.2 (by have := BU2.out; omega) NB.out.1 (by omega) h3 NB.out.2.2.2.1
                  have HF : Keep ((V * 4294967296 + u0) / Y = q - 1) := ⟨dq_over NB.out.2.2.2.2.1 NB.out.2.2.2.2.2 HE'.out h3 hlt (by omega) NB.out.2.2.1 NB.out.2.2.2.1 (by have := BU2.out; omega) HQ'.out⟩
                  have hq0' : 0 ≤ q - 1 := by omega
                  clear hq0 hq1 HE HQ HQ' HE' hwm hwa hg hlt
                  obtain ⟨q2, hq2⟩ : ∃ z, q - 1 = z := ⟨_, rfl⟩
                  rw [hq2] at HF hq0' hwd
                  have bq0 : 0 ≤ q2 ∧ q2 < 4294967296 := dq_range NB.out.2.2.2.2.2 BU2.out.1 BU2.out.2.1 BU2.out.2.2.1 BU2.out.2.2.2 HF.out
                  have bq1 : 0 ≤ q1 ∧ q1 < 4294967296 := dq_range NB.out.2.2.2.2.2 BU1.out.1 BU1.out.2.1 BU1.out.2.2.1 BU1.out.2.2.2 HF1.out
                  have hC1 : IntKind.u64.wrap (q1 * 4294967296) = q1 * 4294967296 := by rw [IntKind.wrap_u64]; omega
                  have hC2 : IntKind.u64.wrap (q1 * 4294967296 + q2) = q1 * 4294967296 + q2 := by rw [IntKind.wrap_u64]; omega
                  have FIN : Keep (q1 * 4294967296 + q2 = (hi * 18446744073709551616 + lo) / y) := ⟨dq_fin NB.out.2.2.2.2.2 NUM.out.1 NUM.out.2.1 NUM.out.2.2 HV.out HF.out⟩
                  clear bq1 bq0
                  go_wp2
                  go_ret2
                  first
                    | exact ⟨_, ret_eq (by rw [← FIN.out]; rfl), hb⟩
                    | exact ⟨⟨_, ret_eq (by rw [← FIN.out]; rfl)⟩, hb⟩
        · have HF : Keep ((U * 4294967296 + u1) / Y = q) := ⟨dq_fit NB.out.2.2.2.2.1 NB.out.2.2.2.2.2 HE.out h2 HQ.out⟩
          have hn1 : ¬ 4294967296 ≤ q := by omega
          have hn2 : ¬ 4294967296 * r + u1 < q * n0 := by omega
          have hq0' : 0 ≤ q := hq0
          clear hq0 hq1 HE HQ hwr hg
          obtain ⟨qa, rfl⟩ : ∃ z, z = q := ⟨_, rfl⟩
          have HF1 : Keep _ := ⟨HF.out⟩
          obtain ⟨A1, hA1⟩ : ∃ z, IntKind.u64.wrap (U * 4294967296) = z := ⟨_, rfl⟩
          obtain ⟨A2, hA2⟩ : ∃ z, IntKind.u64.wrap (A1 + u1) = z := ⟨_, rfl⟩
          obtain ⟨A3, hA3⟩ : ∃ z, IntKind.u64.wrap (qa * Y) = z := ⟨_, rfl⟩
          obtain ⟨V, hV⟩ : ∃ z, IntKind.u64.wrap (A2 - A3) = z := ⟨_, rfl⟩
          have bv : V = U * 4294967296 + u1 - qa * Y ∧ 0 ≤ V ∧ V < Y := by
            have h1 := div_atoms NB.out.2.2.2.2.2 HF1.out
            have h2 := BY.out
            rw [IntKind.wrap_u64] at hA1 hA2 hA3 hV
            generalize qa * Y = p at *
            omega
          have HV : Keep _ := ⟨bv.1⟩
          obtain ⟨Q2, hQ2⟩ : ∃ z, IntKind.u64.wrap (V.tdiv n1) = z := ⟨_, rfl⟩
          have D2 := div_parts bv.2.1 (show V < 18446744073709551616 by have := BY.out; omega) NB.out.1
          have eQ2 : Q2 = V / n1 := by rw [← hQ2, Int.tdiv_eq_ediv_of_nonneg bv.2.1, IntKind.wrap_u64]; omega
          have hP2 : IntKind.u64.wrap (Q2 * n1) = Q2 * n1 := by rw [eQ2, IntKind.wrap_u64]; have := BY.out; omega
          obtain ⟨R2, hR2⟩ : ∃ z, IntKind.u64.wrap (V - Q2 * n1) = z := ⟨_, rfl⟩
          have eR2 : R2 = V - Q2 * n1 := by rw [← hR2, eQ2, IntKind.wrap_u64]; have := BY.out; omega
          have BU2 : Keep (0 ≤ V ∧ V < Y ∧ 0 ≤ u0 ∧ u0 < 4294967296) := ⟨bv.2.1, bv.2.2, BU0.out⟩
          have S2 : Keep (0 ≤ Q2 ∧ Q2 ≤ 8589934592 ∧ 0 ≤ R2 ∧ R2 < 4294967296 ∧ Q2 * n1 + R2 = V ∧ (V * 4294967296 + u0) / Y ≤ Q2) := ⟨by
            rw [eR2, eQ2]
            have h3 := dq_init (u := u0) NB.out.1 NB.out.2.2.1 NB.out.2.2.2.2.1 bv.2.1 BU0.out.1 BU0.out.2
            have h4 := NB.out.2.1
            exact ⟨by omega, by omega, by omega, by omega, by omega, h3⟩⟩
          have hb2 := hb
          clear bv eQ2 eR2 D2 hb
          go_wp2
          go_loopg [18, 16] 8589934593 (fun (gk : Nat) vq vr wr => ∃ q r : Int, vq = .int .u64 q ∧ vr = .int .u64 r ∧ 0 ≤ q ∧ q ≤ 8589934592 ∧ 0 ≤ r ∧ r < 4294967296 ∧ Keep (q * n1 + r = V) ∧ Keep ((V * 4294967296 + u0) / Y ≤ q) ∧ q.toNat ≤ gk ∧ Below w.heap.size w wr)
          case atStart => exact ⟨Q2, R2, rfl, rfl, S2.out.1, S2.out.2.1, S2.out.2.2.1, S2.out.2.2.2.1, ⟨S2.out.2.2.2.2.1⟩, ⟨S2.out.2.2.2.2.2⟩, by have := S2.out; omega, hb2⟩
          case round =>
            clear hb2
            obtain ⟨q, r, rfl, rfl, hq0, hq1, hr0, hr1, HE, HQ, hg, hb⟩ := hrel
            have hwr : IntKind.u64.wrap (r + n1) = r + n1 := by rw [IntKind.wrap_u64]; have := NB.out; omega
            have hwm : IntKind.u64.wrap (4294967296 * r) = 4294967296 * r := by rw [IntKind.wrap_u64]; omega
            have hwa : IntKind.u64.wrap (4294967296 * r + u0) = 4294967296 * r + u0 := by rw [IntKind.wrap_u64]; have := BU2.out; omega
            rcases Int.lt_or_le q 4294967296 with h1 | h1
            · have hwq : IntKind.u64.wrap (q * n0) = q * n0 := by rw [IntKind.wrap_u64]; have := mul_small hq0 h1 NB.out.2.2.1 NB.out.2.2.2.1; omega
              rcases Int.lt_or_le (4294967296 * r + u0) (q * n0) with h2 | h2
              · have hpos : 1 ≤ q := dq_pos hq0 (by have := BU2.out; omega) h2
                have hwd : IntKind.u64.wrap (q - 1) = q - 1 := by rw [IntKind.wrap_u64]; omega
                have HE' : Keep ((q - 1) * n1 + (r + n1) = V) := ⟨by have := HE.out; rw [Int.sub_mul]; omega⟩
                have HQ' : Keep ((V * 4294967296 + u0) / Y ≤ q - 1) := ⟨dq_less NB.out.2.2.2.2.1 NB.out.2.2.2.2.2 HE.out h2⟩
                rcases Int.lt_or_le (r + n1) 4294967296 with h3 | h3
                · obtain ⟨m, rfl⟩ : ∃ m, gk = m + 1 := ⟨gk - 1, by omega⟩
                  have hrn : 0 ≤ r + n1 := by have := NB.out; omega
                  go_wp2
                  go_roundg m
                  case measure => omega
                  case rel => exact ⟨q - 1, r + n1, rfl, rfl, by omega, by omega, hrn, h3, HE', HQ', by omega, hb⟩
                · have HF : Keep ((V * 4294967296 + u0) / Y = q - 1) := ⟨dq_over NB.out.2.2.2.2.1 NB.out.2.2.2.2.2 HE'.out h3 (by omega) (by omega) NB.out.2.2.1 NB.out.2.2.2.1 (by have := BU2.out; omega) HQ'.out⟩
                  have hq0' : 0 ≤ q - 1 := by omega
                  clear hq0 hq1 HE HQ HQ' HE' hg
                  obtain ⟨q2, hq2⟩ : ∃ z, q - 1 = z := ⟨_, rfl⟩
                  rw [hq2] at HF hq0' hwd
                  have bq0 : 0 ≤ q2 ∧ q2 < 4294967296 := dq_range NB.out.2.2.2.2.2 BU2.out.1 BU2.out.2.1 BU2.out.2.2.1 BU2.out.2.2.2 HF.out
                  have bq1 : 0 ≤ qa ∧ qa < 4294967296 := dq_range NB.out.2.2.2.2.2 BU1.out.1 BU1.out.2.1 BU1.out.2.2.1 BU1.out.2.2.2 HF1.out
                  have hC1 : IntKind.u64.wrap (qa * 4294967296) = qa * 4294967296 := by rw [IntKind.wrap_u64]; omega
                  have hC2 : IntKind.u64.wrap (qa * 4294967296 + q2) = qa * 4294967296 + q2 := by rw [IntKind.wrap_u64]; omega
                  have FIN : Keep (qa * 4294967296 + q2 = (hi * 18446744073709551616 + lo) / y) := ⟨dq_fin NB.out.2.2.2.2.2 NUM.out.1 NUM.out.2.1 NUM.out.2.2 HV.out HF.out⟩
                  clear bq1 bq0
                  go_wp2
                  go_ret2
                  first
                    | exact ⟨_, ret_eq (by rw [← FIN.out]; rfl), hb⟩
                    | exact ⟨⟨_, ret_eq (by rw [← FIN.out]; rfl)⟩, hb⟩
              · have HF : Keep ((V * 4294967296 + u0) / Y = q) := ⟨dq_fit NB.out.2.2.2.2.1 NB.out.2.2.2.2.2 HE.out h2 HQ.out⟩
                have hn1 : ¬ 4294967296 ≤ q := by omega
                have hn2 : ¬ 4294967296 * r + u0 < q * n0 := by omega
                have hq0' : 0 ≤ q := hq0
                clear hq0 hq1 HE HQ hwr hg
                obtain ⟨qaa, rfl⟩ : ∃ z, z = q := ⟨_, rfl⟩
                have bq0 : 0 ≤ qaa ∧ qaa < 4294967296 := dq_range NB.out.2.2.2.2.2 BU2.out.1 BU2.out.2.1 BU2.out.2.2.1 BU2.out.2.2.2 HF.out
                have bq1 : 0 ≤ qa ∧ qa < 4294967296 := dq_range NB.out.2.2.2.2.2 BU1.out.1 BU1.out.2.1 BU1.out.2.2.1 BU1.out.2.2.2 HF1.out
                have hC1 : IntKind.u64.wrap (qa * 4294967296) = qa * 4294967296 := by rw [IntKind.wrap_u64]; omega
                have hC2 : IntKind.u64.wrap (qa * 4294967296 + qaa) = qa * 4294967296 + qaa := by rw [IntKind.wrap_u64]; omega
                have FIN : Keep (qa * 4294967296 + qaa = (hi * 18446744073709551616 + lo) / y) := ⟨dq_fin NB.out.2.2.2.2.2 NUM.out.1 NUM.out.2.1 NUM.out.2.2 HV.out HF.out⟩
                clear bq1 bq0
                go_wp2
                go_ret2
                first
                  | exact ⟨_, ret_eq (by rw [← FIN.out]; rfl), hb⟩
                  | exact ⟨⟨_, ret_eq (by rw [← FIN.out]; rfl)⟩, hb⟩
            · have hpos : 1 ≤ q := by omega
              have hwd : IntKind.u64.wrap (q - 1) = q - 1 := by rw [IntKind.wrap_u64]; omega
              have HE' : Keep ((q - 1) * n1 + (r + n1) = V) := ⟨by have := HE.out; rw [Int.sub_mul]; omega⟩
              have HQ' : Keep ((V * 4294967296 + u0) / Y ≤ q - 1) := ⟨dq_big NB.out.2.2.2.2.2 (by have := BU2.out; omega) (by have := BU2.out; omega) h1⟩
              rcases Int.lt_or_le (r + n1) 4294967296 with h3 | h3
              · obtain ⟨m, rfl⟩ : ∃ m, gk = m + 1 := ⟨gk - 1, by omega⟩
                have hrn : 0 ≤ r + n1 := by have := NB.out; omega
                go_wp2
                go_roundg m
                case measure => omega
                case rel => exact ⟨q - 1, r + n1, rfl, rfl, by omega, by omega, hrn, h3, HE', HQ', by omega, hb⟩
              · have hlt : q - 1 ≤ 4294967296 := dq_small HE'.out NB.out.2.2.2.2.1 NB.out.2.2.2.2.2 (by have := BU2.out; omega) NB.out.1 (by omega) h3 NB.out.2.2.2.1
                have HF : Keep ((V * 4294967296 + u0) / Y = q - 1) := ⟨dq_over NB.out.2.2.2.2.1 NB.out.2.2.2.2.2 HE'.out h3 hlt (by omega) NB.out.2.2.1 NB.out.2.2.2.1 (by have := BU2.out; omega) HQ'.out⟩
                have hq0' : 0 ≤ q - 1 := by omega
                clear hq0 hq1 HE HQ HQ' HE' hwm hwa hg hlt
                obtain ⟨q2, hq2⟩ : ∃ z, q - 1 = z := ⟨_, rfl⟩
                rw [hq2] at HF hq0' hwd
                have bq0 : 0 ≤ q2 ∧ q2 < 4294967296 := dq_range NB.out.2.2.2.2.2 BU2.out.1 BU2.out.2.1 BU2.out.2.2.1 BU2.out.2.2.2 HF.out
                have bq1 : 0 ≤ qa ∧ qa < 4294967296 := dq_range NB.out.2.2.2.2.2 BU1.out.1 BU1.out.2.1 BU1.out.2.2.1 BU1.out.2.2.2 HF1.out
                have hC1 : IntKind.u64.wrap (qa * 4294967296) = qa * 4294967296 := by rw [IntKind.wrap_u64]; omega
                have hC2 : IntKind.u64.wrap (qa * 4294967296 + q2) = qa * 4294967296 + q2 := by rw [IntKind.wrap_u64]; omega
                have FIN : Keep (qa * 4294967296 + q2 = (hi * 18446744073709551616 + lo) / y) := ⟨dq_fin NB.out.2.2.2.2.2 NUM.out.1 NUM.out.2.1 NUM.out.2.2 HV.out HF.out⟩
                clear bq1 bq0
                go_wp2
                go_ret2
                first
                  | exact ⟨_, ret_eq (by rw [← FIN.out]; rfl), hb⟩
                  | exact ⟨⟨_, ret_eq (by rw [← FIN.out]; rfl)⟩, hb⟩
      · have hpos : 1 ≤ q := by omega
        have hwd : IntKind.u64.wrap (q - 1) = q - 1 := by rw [IntKind.wrap_u64]; omega
        have HE' : Keep ((q - 1) * n1 + (r + n1) = U) := ⟨by have := HE.out; rw [Int.sub_mul]; omega⟩
        have HQ' : Keep ((U * 4294967296 + u1) / Y ≤ q - 1) := ⟨dq_big NB.out.2.2.2.2.2 (by have := BU1.out; omega) (by have := BU1.out; omega) h1⟩
        rcases Int.lt_or_le (r + n1) 4294967296 with h3 | h3
        · obtain ⟨m, rfl⟩ : ∃ m, gk = m + 1 := ⟨gk - 1, by omega⟩
          have hrn : 0 ≤ r + n1 := by have := NB.out; omega
          go_wp2
          go_roundg m
          case measure => omega
          case rel => exact ⟨q - 1, r + n1, rfl, rfl, by omega, by omega, hrn, h3, HE', HQ', by omega, hb⟩
        · have hlt : q - 1 ≤ 4294967296 := dq_small HE'.out NB.out.2.2.2.2.1 NB.out.2.2.2.2.2 (by have := BU1.out; omega) NB.out.1 (by omega) h3 NB.out.2.2.2.1
          have HF : Keep ((U * 4294967296 + u1) / Y = q - 1) := ⟨dq_over NB.out.2.2.2.2.1 NB.out.2.2.2.2.2 HE'.out h3 hlt (by omega) NB.out.2.2.1 NB.out.2.2.2.1 (by have := BU1.out; omega) HQ'.out⟩
          have hq0' : 0 ≤ q - 1 := by omega
          clear hq0 hq1 HE HQ HQ' HE' hwm hwa hg hlt
          obtain ⟨q1, hq1⟩ : ∃ z, q - 1 = z := ⟨_, rfl⟩
          rw [hq1] at HF hq0' hwd
          have HF1 : Keep _ := ⟨HF.out⟩
          obtain ⟨A1, hA1⟩ : ∃ z, IntKind.u64.wrap (U * 4294967296) = z := ⟨_, rfl⟩
          obtain ⟨A2, hA2⟩ : ∃ z, IntKind.u64.wrap (A1 + u1) = z := ⟨_, rfl⟩
          obtain ⟨A3, hA3⟩ : ∃ z, IntKind.u64.wrap (q1 * Y) = z := ⟨_, rfl⟩
          obtain ⟨V, hV⟩ : ∃ z, IntKind.u64.wrap (A2 - A3) = z := ⟨_, rfl⟩
          have bv : V = U * 4294967296 + u1 - q1 * Y ∧ 0 ≤ V ∧ V < Y := by
            have h1 := div_atoms NB.out.2.2.2.2.2 HF1.out
            have h2 := BY.out
            rw [IntKind.wrap_u64] at hA1 hA2 hA3 hV
            generalize q1 * Y = p at *
            omega
          have HV : Keep _ := ⟨bv.1⟩
          obtain ⟨Q2, hQ2⟩ : ∃ z, IntKind.u64.wrap (V.tdiv n1) = z := ⟨_, rfl⟩
          have D2 := div_parts bv.2.1 (show V < 18446744073709551616 by have := BY.out; omega) NB.out.1
          have eQ2 : Q2 = V / n1 := by rw [← hQ2, Int.tdiv_eq_ediv_of_nonneg bv.2.1, IntKind.wrap_u64]; omega
          have hP2 : IntKind.u64.wrap (Q2 * n1) = Q2 * n1 := by rw [eQ2, IntKind.wrap_u64]; have := BY.out; omega
          obtain ⟨R2, hR2⟩ : ∃ z, IntKind.u64.wrap (V - Q2 * n1) = z := ⟨_, rfl⟩
          have eR2 : R2 = V - Q2 * n1 := by rw [← hR2, eQ2, IntKind.wrap_u64]; have := BY.out; omega
          have BU2 : Keep (0 ≤ V ∧ V < Y ∧ 0 ≤ u0 ∧ u0 < 4294967296) := ⟨bv.2.1, bv.2.2, BU0.out⟩
          have S2 : Keep (0 ≤ Q2 ∧ Q2 ≤ 8589934592 ∧ 0 ≤ R2 ∧ R2 < 4294967296 ∧ Q2 * n1 + R2 = V ∧ (V * 4294967296 + u0) / Y ≤ Q2) := ⟨by
            rw [eR2, eQ2]
            have h3 := dq_init (u := u0) NB.out.1 NB.out.2.2.1 NB.out.2.2.2.2.1 bv.2.1 BU0.out.1 BU0.out.2
            have h4 := NB.out.2.1
            exact ⟨by omega, by omega, by omega, by omega, by omega, h3⟩⟩
          have hb2 := hb
          clear bv eQ2 eR2 D2 hb
          go_wp2
          go_loopg [18, 16] 8589934593 (fun (gk : Nat) vq vr wr => ∃ q r : Int, vq = .int .u64 q ∧ vr = .int .u64 r ∧ 0 ≤ q ∧ q ≤ 8589934592 ∧ 0 ≤ r ∧ r < 4294967296 ∧ Keep (q * n1 + r = V) ∧ Keep ((V * 4294967296 + u0) / Y ≤ q) ∧ q.toNat ≤ gk ∧ Below w.heap.size w wr)
          case atStart => exact ⟨Q2, R2, rfl, rfl, S2.out.1, S2.out.2.1, S2.out.2.2.1, S2.out.2.2.2.1, ⟨S2.out.2.2.2.2.1⟩, ⟨S2.out.2.2.2.2.2⟩, by have := S2.out; omega, hb2⟩
          case round =>
            clear hb2
            obtain ⟨q, r, rfl, rfl, hq0, hq1, hr0, hr1, HE, HQ, hg, hb⟩ := hrel
            have hwr : IntKind.u64.wrap (r + n1) = r + n1 := by rw [IntKind.wrap_u64]; have := NB.out; omega
            have hwm : IntKind.u64.wrap (4294967296 * r) = 4294967296 * r := by rw [IntKind.wrap_u64]; omega
            have hwa : IntKind.u64.wrap (4294967296 * r + u0) = 4294967296 * r + u0 := by rw [IntKind.wrap_u64]; have := BU2.out; omega
            rcases Int.lt_or_le q 4294967296 with h1 | h1
            · have hwq : IntKind.u64.wrap (q * n0) = q * n0 := by rw [IntKind.wrap_u64]; have := mul_small hq0 h1 NB.out.2.2.1 NB.out.2.2.2.1; omega
              rcases Int.lt_or_le (4294967296 * r + u0) (q * n0) with h2 | h2
              · have hpos : 1 ≤ q := dq_pos hq0 (by have := BU2.out; omega) h2
                have hwd : IntKind.u64.wrap (q - 1) = q - 1 := by rw [IntKind.wrap_u64]; omega
                have HE' : Keep ((q - 1) * n1 + (r + n1) = V) := ⟨by have := HE.out; rw [Int.sub_mul]; omega⟩
                have HQ' : Keep ((V * 4294967296 + u0) / Y ≤ q - 1) := ⟨dq_less NB.out.2.2.2.2.1 NB.out.2.2.2.2.2 HE.out h2⟩
                rcases Int.lt_or_le (r + n1) 4294967296 with h3 | h3
                · obtain ⟨m, rfl⟩ : ∃ m, gk = m + 1 := ⟨gk - 1, by omega⟩
                  have hrn : 0 ≤ r + n1 := by have := NB.out; omega
                  go_wp2
                  go_roundg m
                  case measure => omega
                  case rel => exact ⟨q - 1, r + n1, rfl, rfl, by omega, by omega, hrn, h3, HE', HQ', by omega, hb⟩
                · have HF : Keep ((V * 4294967296 + u0) / Y = q - 1) := ⟨dq_over NB.out.2.2.2.2.1 NB.out.2.2.2.2.2 HE'.out h3 (by omega) (by omega) NB.out.2.2.1 NB.out.2.2.2.1 (by have := BU2.out; omega) HQ'.out⟩
                  have hq0' : 0 ≤ q - 1 := by omega
                  clear hq0 hq1 HE HQ HQ' HE' hg
                  obtain ⟨q2, hq2⟩ : ∃ z, q - 1 = z := ⟨_, rfl⟩
                  rw [hq2] at HF hq0' hwd
                  have bq0 : 0 ≤ q2 ∧ q2 < 4294967296 := dq_range NB.out.2.2.2.2.2 BU2.out.1 BU2.out.2.1 BU2.out.2.2.1 BU2.out.2.2.2 HF.out
                  have bq1 : 0 ≤ q1 ∧ q1 < 4294967296 := dq_range NB.out.2.2.2.2.2 BU1.out.1 BU1.out.2.1 BU1.out.2.2.1 BU1.out.2.2.2 HF1.out
                  have hC1 : IntKind.u64.wrap (q1 * 4294967296) = q1 * 4294967296 := by rw [IntKind.wrap_u64]; omega
                  have hC2 : IntKind.u64.wrap (q1 * 4294967296 + q2) = q1 * 4294967296 + q2 := by rw [IntKind.wrap_u64]; omega
                  have FIN : Keep (q1 * 4294967296 + q2 = (hi * 18446744073709551616 + lo) / y) := ⟨dq_fin NB.out.2.2.2.2.2 NUM.out.1 NUM.out.2.1 NUM.out.2.2 HV.out HF.out⟩
                  clear bq1 bq0
                  go_wp2
                  go_ret2
                  first
                    | exact ⟨_, ret_eq (by rw [← FIN.out]; rfl), hb⟩
                    | exact ⟨⟨_, ret_eq (by rw [← FIN.out]; rfl)⟩, hb⟩
              · have HF : Keep ((V * 4294967296 + u0) / Y = q) := ⟨dq_fit NB.out.2.2.2.2.1 NB.out.2.2.2.2.2 HE.out h2 HQ.out⟩
                have hn1 : ¬ 4294967296 ≤ q := by omega
                have hn2 : ¬ 4294967296 * r + u0 < q * n0 := by omega
                have hq0' : 0 ≤ q := hq0
                clear hq0 hq1 HE HQ hwr hg
                obtain ⟨qaa, rfl⟩ : ∃ z, z = q := ⟨_, rfl⟩
                have bq0 : 0 ≤ qaa ∧ qaa < 4294967296 := dq_range NB.out.2.2.2.2.2 BU2.out.1 BU2.out.2.1 BU2.out.2.2.1 BU2.out.2.2.2 HF.out
                have bq1 : 0 ≤ q1 ∧ q1 < 4294967296 := dq_range NB.out.2.2.2.2.2 BU1.out.1 BU1.out.2.1 BU1.out.2.2.1 BU1.out.2.2.2 HF1.out
                have hC1 : IntKind.u64.wrap (q1 * 4294967296) = q1 * 4294967296 := by rw [IntKind.wrap_u64]; omega
                have hC2 : IntKind.u64.wrap (q1 * 4294967296 + qaa) = q1 * 4294967296 + qaa := by rw [IntKind.wrap_u64]; omega
                have FIN : Keep (q1 * 4294967296 + qaa = (hi * 18446744073709551616 + lo) / y) := ⟨dq_fin NB.out.2.2.2.2.2 NUM.out.1 NUM.out.2.1 NUM.out.2.2 HV.out HF.out⟩
                clear bq1 bq0
                go_wp2
                go_ret2
                first
                  | exact ⟨_, ret_eq (by rw [← FIN.out]; rfl), hb⟩
                  | exact ⟨⟨_, ret_eq (by rw [← FIN.out]; rfl)⟩, hb⟩
            · have hpos : 1 ≤ q := by omega
              have hwd : IntKind.u64.wrap (q - 1) = q - 1 := by rw [IntKind.wrap_u64]; omega
              have HE' : Keep ((q - 1) * n1 + (r + n1) = V) := ⟨by have := HE.out; rw [Int.sub_mul]; omega⟩
              have HQ' : Keep ((V * 4294967296 + u0) / Y ≤ q - 1) := ⟨dq_big NB.out.2.2.2.2.2 (by have := BU2.out; omega) (by have := BU2.out; omega) h1⟩
              rcases Int.lt_or_le (r + n1) 4294967296 with h3 | h3
              · obtain ⟨m, rfl⟩ : ∃ m, gk = m + 1 := ⟨gk - 1, by omega⟩
                have hrn : 0 ≤ r + n1 := by have := NB.out; omega
                go_wp2
                go_roundg m
                case measure => omega
                case rel => exact ⟨q - 1, r + n1, rfl, rfl, by omega, by omega, hrn, h3, HE', HQ', by omega, hb⟩
              · have hlt : q - 1 ≤ 4294967296 := dq_small HE'.out NB.out.2.2.2.2.1 NB.out.2.2.2.2.2 (by have := BU2.out; omega) NB.out.1 (by omega) h3 NB.out.2.2.2.1
                have HF : Keep ((V * 4294967296 + u0) / Y = q - 1) := ⟨dq_over NB.out.2.2.2.2.1 NB.out.2.2.2.2.2 HE'.out h3 hlt (by omega) NB.out.2.2.1 NB.out.2.2.2.1 (by have := BU2.out; omega) HQ'.out⟩
                have hq0' : 0 ≤ q - 1 := by omega
                clear hq0 hq1 HE HQ HQ' HE' hwm hwa hg hlt
                obtain ⟨q2, hq2⟩ : ∃ z, q - 1 = z := ⟨_, rfl⟩
                rw [hq2] at HF hq0' hwd
                have bq0 : 0 ≤ q2 ∧ q2 < 4294967296 := dq_range NB.out.2.2.2.2.2 BU2.out.1 BU2.out.2.1 BU2.out.2.2.1 BU2.out.2.2.2 HF.out
                have bq1 : 0 ≤ q1 ∧ q1 < 4294967296 := dq_range NB.out.2.2.2.2.2 BU1.out.1 BU1.out.2.1 BU1.out.2.2.1 BU1.out.2.2.2 HF1.out
                have hC1 : IntKind.u64.wrap (q1 * 4294967296) = q1 * 4294967296 := by rw [IntKind.wrap_u64]; omega
                have hC2 : IntKind.u64.wrap (q1 * 4294967296 + q2) = q1 * 4294967296 + q2 := by rw [IntKind.wrap_u64]; omega
                have FIN : Keep (q1 * 4294967296 + q2 = (hi * 18446744073709551616 + lo) / y) := ⟨dq_fin NB.out.2.2.2.2.2 NUM.out.1 NUM.out.2.1 NUM.out.2.2 HV.out HF.out⟩
                clear bq1 bq0
                go_wp2
                go_ret2
                first
                  | exact ⟨_, ret_eq (by rw [← FIN.out]; rfl), hb⟩
                  | exact ⟨⟨_, ret_eq (by rw [← FIN.out]; rfl)⟩, hb⟩
end Go.Proofs.YtpgphhinelljoaaDoor.Bits
