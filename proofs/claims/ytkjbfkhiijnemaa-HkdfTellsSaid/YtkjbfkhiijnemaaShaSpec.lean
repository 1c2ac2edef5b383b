/-
  Own text. SHA-256 as plain functions on integers, in the forms in which the model reckons words of 32 bits; no program.
-/
import Derived.Test.YtkjbfkhiijnemaaReg
namespace Go.Proofs.Ytkjbfkhiijnemaa.Sha
open Go Go.Proofs.Ytkjbfkhiijnemaa.Reg
/-- A word turned to the right. -/
def rot (x n : Int) : Int := bits .or .u32 (x / 2 ^ n.toNat) (x * 2 ^ (32 - n).toNat % 4294967296)
def S0 (x : Int) : Int := bits .xor .u32 (bits .xor .u32 (rot x 2) (rot x 13)) (rot x 22)
def S1 (x : Int) : Int := bits .xor .u32 (bits .xor .u32 (rot x 6) (rot x 11)) (rot x 25)
def s0 (x : Int) : Int := bits .xor .u32 (bits .xor .u32 (rot x 7) (rot x 18)) (x / 8)
def s1 (x : Int) : Int := bits .xor .u32 (bits .xor .u32 (rot x 17) (rot x 19)) (x / 1024)
def ch (e f g : Int) : Int := bits .xor .u32 (bits .and .u32 e f) (bits .and .u32 (bits .xor .u32 4294967295 e) g)
def maj (a b c : Int) : Int := bits .xor .u32 (bits .xor .u32 (bits .and .u32 a b) (bits .and .u32 a c)) (bits .and .u32 b c)
/-- The word of four bytes. -/
def be (b : List Int) (t : Nat) : Int :=
  bits .or .u32 (bits .or .u32 (bits .or .u32 (nth b (4 * t) * 16777216) (nth b (4 * t + 1) * 65536)) (nth b (4 * t + 2) * 256)) (nth b (4 * t + 3))
def drawn (l : List Int) (t : Nat) : Int := (s1 (nth l (t - 2)) + nth l (t - 7) + s0 (nth l (t - 15)) + nth l (t - 16)) % 4294967296
def nextW (b l : List Int) (t : Nat) : Int := if t < 16 then be b t else drawn l t
/-- The first t words of a block's sixty-four. -/
def wseq (b : List Int) : Nat → List Int
  | 0 => []
  | t + 1 => wseq b t ++ [nextW b (wseq b t) t]
def wpad (b : List Int) (t : Nat) : List Int := wseq b t ++ List.replicate (64 - t) 0
theorem wseq_len (b : List Int) (t : Nat) : (wseq b t).length = t := by
  induction t with
  | zero => rfl
  | succ t ih => simp [wseq, ih]
theorem wpad_len (b : List Int) (t : Nat) (h : t ≤ 64) : (wpad b t).length = 64 := by simp [wpad, wseq_len]; omega
theorem wpad_get (b : List Int) (t i : Nat) (h : i < t) : nth (wpad b t) i = nth (wseq b t) i :=
  nth_append_left _ _ _ (by rw [wseq_len]; exact h)
theorem wpad_set (b : List Int) (t : Nat) (h : t < 64) : (wpad b t).set t (nextW b (wseq b t) t) = wpad b (t + 1) := by
  have hl := wseq_len b t
  obtain ⟨m, hm⟩ : ∃ m, 64 - t = m + 1 := ⟨63 - t, by omega⟩
  unfold wpad
  rw [hm, List.replicate_succ, List.set_append_right _ _ (by omega), hl, Nat.sub_self, List.set_cons_zero, wseq, show 64 - (t + 1) = m by omega]
  simp
theorem wpad_zero (b : List Int) : wpad b 0 = List.replicate 64 0 := rfl
theorem wpad_full (b : List Int) : wpad b 64 = wseq b 64 := by simp [wpad]
/-- Bytes. -/
def Bytes (b : List Int) : Prop := ∀ i, 0 ≤ nth b i ∧ nth b i ≤ 255
/-- The sixty-four words k, and the state ahead of all blocks. -/
def K : List Int := [1116352408, 1899447441, 3049323471, 3921009573, 961987163, 1508970993, 2453635748, 2870763221, 3624381080, 310598401, 607225278, 1426881987, 1925078388, 2162078206, 2614888103, 3248222580, 3835390401, 4022224774, 264347078, 604807628, 770255983, 1249150122, 1555081692, 1996064986, 2554220882, 2821834349, 2952996808, 3210313671, 3336571891, 3584528711, 113926993, 338241895, 666307205, 773529912, 1294757372, 1396182291, 1695183700, 1986661051, 2177026350, 2456956037, 2730485921, 2820302411, 3259730800, 3345764771, 3516065817, 3600352804, 4094571909, 275423344, 430227734, 506948616, 659060556, 883997877, 958139571, 1322822218, 1537002063, 1747873779, 1955562222, 2024104815, 2227730452, 2361852424, 2428436474, 2756734187, 3204031479, 3329325298]
def H0 : List Int := [1779033703, 3144134277, 1013904242, 2773480762, 1359893119, 2600822924, 528734635, 1541459225]
theorem K_len : K.length = 64 := rfl
def t1 (l : List Int) (k w : Int) : Int := (nth l 7 + S1 (nth l 4) + ch (nth l 4) (nth l 5) (nth l 6) + k + w) % 4294967296
def t2 (l : List Int) : Int := (S0 (nth l 0) + maj (nth l 0) (nth l 1) (nth l 2)) % 4294967296
def rnd (l : List Int) (k w : Int) : List Int := [(t1 l k w + t2 l) % 4294967296, nth l 0, nth l 1, nth l 2, (nth l 3 + t1 l k w) % 4294967296, nth l 4, nth l 5, nth l 6]
def rounds (ws h : List Int) : Nat → List Int
  | 0 => h
  | t + 1 => rnd (rounds ws h t) (nth K t) (nth ws t)
theorem rounds_len (ws h : List Int) (hh : h.length = 8) (t : Nat) : (rounds ws h t).length = 8 := by
  cases t with
  | zero => exact hh
  | succ t => rfl
/-- The first t words added. -/
def addTo (h v : List Int) (t : Nat) : List Int := (List.range 8).map fun j => if j < t then (nth v j + nth h j) % 4294967296 else nth v j
theorem addTo_len (h v : List Int) (t : Nat) : (addTo h v t).length = 8 := by simp [addTo]
theorem addTo_nth (h v : List Int) (t j : Nat) (hj : j < 8) : nth (addTo h v t) j = if j < t then (nth v j + nth h j) % 4294967296 else nth v j := by
  simp [addTo, nth, hj]
theorem addTo_zero (h v : List Int) (hv : v.length = 8) : addTo h v 0 = v :=
  ext_nth (by rw [addTo_len, hv]) fun i hi => by rw [addTo_nth _ _ _ _ (by rw [addTo_len] at hi; exact hi)]; simp
theorem addTo_set (h v : List Int) (t : Nat) (ht : t < 8) : (addTo h v t).set t ((nth v t + nth h t) % 4294967296) = addTo h v (t + 1) := by
  refine ext_nth (by rw [List.length_set, addTo_len, addTo_len]) fun i hi => ?_
  rw [List.length_set, addTo_len] at hi
  rw [nth_set _ _ _ _ (by rw [addTo_len]; exact ht), addTo_nth _ _ _ _ hi, addTo_nth _ _ _ _ hi]
  by_cases e : t = i
  · subst e; simp
  · simp only [e, if_false]
    by_cases e2 : i < t
    · simp [e2, show i < t + 1 by omega]
    · simp [e2, show ¬ i < t + 1 by omega]
/-- The state behind one block more. -/
def stepL (h bs : List Int) : List Int := addTo h (rounds (wseq bs 64) h 64) 8
theorem stepL_len (h bs : List Int) : (stepL h bs).length = 8 := addTo_len _ _ _
theorem eight {l : List Int} (h : l.length = 8) : ∃ a b c d e f g i, l = [a, b, c, d, e, f, g, i] := by
  match l, h with
  | [a, b, c, d, e, f, g, i], _ => exact ⟨a, b, c, d, e, f, g, i, rfl⟩
/-- The word of four bytes as a sum. -/
theorem be_sum (b : List Int) (t : Nat) (hb : Bytes b) : be b t = nth b (4 * t) * 16777216 + nth b (4 * t + 1) * 65536 + nth b (4 * t + 2) * 256 + nth b (4 * t + 3) := by
  have h0 := hb (4 * t)
  have h1 := hb (4 * t + 1)
  have h2 := hb (4 * t + 2)
  have h3 := hb (4 * t + 3)
  have hk : ∀ n : Int, 0 ≤ n → n < 2 ^ 32 → IntKind.u32.wrap n = n := fun n g0 g1 => by rw [IntKind.wrap_u32]; omega
  unfold be
  generalize nth b (4 * t) = x0 at *
  generalize nth b (4 * t + 1) = x1 at *
  generalize nth b (4 * t + 2) = x2 at *
  generalize nth b (4 * t + 3) = x3 at *
  rw [bits_join .u32 32 (by decide) hk 24 (x0 * 16777216) (x1 * 65536) (by omega) (by omega) (by omega) (by omega) (by omega) (by omega),
    bits_join .u32 32 (by decide) hk 16 (x0 * 16777216 + x1 * 65536) (x2 * 256) (by omega) (by omega) (by omega) (by omega) (by omega) (by omega),
    bits_join .u32 32 (by decide) hk 8 (x0 * 16777216 + x1 * 65536 + x2 * 256) x3 (by omega) (by omega) (by omega) (by omega) (by omega) (by omega)]
end Go.Proofs.Ytkjbfkhiijnemaa.Sha
