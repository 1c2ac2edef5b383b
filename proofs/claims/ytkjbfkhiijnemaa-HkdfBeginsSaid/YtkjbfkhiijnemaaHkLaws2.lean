/-
  Own text. The walk of the statement that fewer bytes of a key are the beginning of more.
-/
import Derived.Test.YtkjbfkhiijnemaaHkAwake
import Derived.OpenShut
namespace Go.Proofs.Ytkjbfkhiijnemaa.Hk
open Go Go.RowKit Go.Proofs.Ytkjbfkhiijnemaa.Reg Go.Proofs.Ytkjbfkhiijnemaa.Sha

set_option maxRecDepth 100000 in
set_option maxHeartbeats 600000 in
theorem begins_big (A : Option Addr) (n c : Nat) (A' : Option Addr) (n' c' : Nat) (k m : Int) (w : World) (hn : ¬ (n ≤ 500 ∧ n' ≤ 500)) : Calls Try.prog 6 #[.slice A n c, .slice A' n' c', .int .i64 k, .int .i64 m] w fun e w' => e = .returned (.bool true) ∧ Below w.heap.size w w' := by
  have hd : decide (n ≤ 500 ∧ n' ≤ 500) = false := decide_eq_false hn
  have HD : Keep _ := ⟨hd⟩
  clear hd hn
  go_enter Try.func6, Try.ntmps6
  go_wp2_with (first
    | (go_at_call 8; refine (awake_c _).mono ?_; rintro e w1 ⟨rfl, hb1⟩)
    | (go_at_call 9; refine (few_c A n c A' n' c' w1).mono ?_; rintro e w2 ⟨rfl, hb2⟩; rw [HD.out]; have hbb2 := hb1.trans (hb2.mono hb1.size)))
  go_ret
  exact ⟨rfl, hbb2⟩

set_option maxRecDepth 100000 in
set_option maxHeartbeats 1000000 in
theorem begins_nn00 (A : Option Addr) (n c : Nat) (key : List Int) (A' : Option Addr) (n' c' : Nat) (b : List Int) (k m : Int) (w : World) (hr : Rd w w.heap.size A n .u8 key) (hby : Bytes key) (hr' : Rd w w.heap.size A' n' .u8 b) (hby' : Bytes b) (hn : n ≤ 500 ∧ n' ≤ 500) (hk : k < 0) (hm : m < 0) :
    Calls Try.prog 6 #[.slice A n c, .slice A' n' c', .int .i64 k, .int .i64 m] w fun e w' => e = .returned (.bool true) ∧ Below w.heap.size w w' := by
  have hd : decide (n ≤ 500 ∧ n' ≤ 500) = true := decide_eq_true hn
  have HD : Keep _ := ⟨hd⟩
  have HN : Keep (n ≤ 1000 ∧ n' ≤ 1000) := ⟨by omega⟩
  have BY : Keep _ := ⟨hby⟩
  have BY' : Keep _ := ⟨hby'⟩
  clear hd hn hby hby'
  go_enter Try.func6, Try.ntmps6
  go_wp2_with (first
    | (go_at_call 8; refine (awake_c _).mono ?_; rintro e w1 ⟨rfl, hb1⟩)
    | (go_at_call 9; refine (few_c A n c A' n' c' w1).mono ?_; rintro e w2 ⟨rfl, hb2⟩; rw [HD.out]; have hbb2 := hb1.trans (hb2.mono hb1.size); clear hb1 hb2)
    | (go_at_call 10
       refine (expand_no A n c A' n' c' m w3 (by omega)).mono ?_
       rintro e w4 ⟨rfl, hb4⟩
       have hbb4 := hbb3.trans (hb4.mono hbb3.size)
       clear hbb3 hb4)
    | (go_at_call 10
       refine (expand_no A n c A' n' c' k w2 (by omega)).mono ?_
       rintro e w3 ⟨rfl, hb3⟩
       have hbb3 := hbb2.trans (hb3.mono hbb2.size)
       clear hbb2 hb3))
  go_ret
  exact ⟨rfl, hbb4⟩

set_option maxRecDepth 100000 in
set_option maxHeartbeats 1000000 in
theorem begins_nn01 (A : Option Addr) (n c : Nat) (key : List Int) (A' : Option Addr) (n' c' : Nat) (b : List Int) (k m : Int) (w : World) (hr : Rd w w.heap.size A n .u8 key) (hby : Bytes key) (hr' : Rd w w.heap.size A' n' .u8 b) (hby' : Bytes b) (hn : n ≤ 500 ∧ n' ≤ 500) (hk : k < 0) (hm : 8160 < m) :
    Calls Try.prog 6 #[.slice A n c, .slice A' n' c', .int .i64 k, .int .i64 m] w fun e w' => e = .returned (.bool true) ∧ Below w.heap.size w w' := by
  have hd : decide (n ≤ 500 ∧ n' ≤ 500) = true := decide_eq_true hn
  have HD : Keep _ := ⟨hd⟩
  have HN : Keep (n ≤ 1000 ∧ n' ≤ 1000) := ⟨by omega⟩
  have BY : Keep _ := ⟨hby⟩
  have BY' : Keep _ := ⟨hby'⟩
  clear hd hn hby hby'
  have hm0 : ¬ m < 0 := by omega
  go_enter Try.func6, Try.ntmps6
  go_wp2_with (first
    | (go_at_call 8; refine (awake_c _).mono ?_; rintro e w1 ⟨rfl, hb1⟩)
    | (go_at_call 9; refine (few_c A n c A' n' c' w1).mono ?_; rintro e w2 ⟨rfl, hb2⟩; rw [HD.out]; have hbb2 := hb1.trans (hb2.mono hb1.size); clear hb1 hb2)
    | (go_at_call 10
       refine (expand_no A n c A' n' c' m w3 (by omega)).mono ?_
       rintro e w4 ⟨rfl, hb4⟩
       have hbb4 := hbb3.trans (hb4.mono hbb3.size)
       clear hbb3 hb4)
    | (go_at_call 10
       refine (expand_no A n c A' n' c' k w2 (by omega)).mono ?_
       rintro e w3 ⟨rfl, hb3⟩
       have hbb3 := hbb2.trans (hb3.mono hbb2.size)
       clear hbb2 hb3))
  go_ret
  exact ⟨rfl, hbb4⟩

set_option maxRecDepth 100000 in
set_option maxHeartbeats 1000000 in
theorem begins_nn10 (A : Option Addr) (n c : Nat) (key : List Int) (A' : Option Addr) (n' c' : Nat) (b : List Int) (k m : Int) (w : World) (hr : Rd w w.heap.size A n .u8 key) (hby : Bytes key) (hr' : Rd w w.heap.size A' n' .u8 b) (hby' : Bytes b) (hn : n ≤ 500 ∧ n' ≤ 500) (hk : 8160 < k) (hm : m < 0) :
    Calls Try.prog 6 #[.slice A n c, .slice A' n' c', .int .i64 k, .int .i64 m] w fun e w' => e = .returned (.bool true) ∧ Below w.heap.size w w' := by
  have hd : decide (n ≤ 500 ∧ n' ≤ 500) = true := decide_eq_true hn
  have HD : Keep _ := ⟨hd⟩
  have HN : Keep (n ≤ 1000 ∧ n' ≤ 1000) := ⟨by omega⟩
  have BY : Keep _ := ⟨hby⟩
  have BY' : Keep _ := ⟨hby'⟩
  clear hd hn hby hby'
  have hk0 : ¬ k < 0 := by omega
  go_enter Try.func6, Try.ntmps6
  go_wp2_with (first
    | (go_at_call 8; refine (awake_c _).mono ?_; rintro e w1 ⟨rfl, hb1⟩)
    | (go_at_call 9; refine (few_c A n c A' n' c' w1).mono ?_; rintro e w2 ⟨rfl, hb2⟩; rw [HD.out]; have hbb2 := hb1.trans (hb2.mono hb1.size); clear hb1 hb2)
    | (go_at_call 10
       refine (expand_no A n c A' n' c' m w3 (by omega)).mono ?_
       rintro e w4 ⟨rfl, hb4⟩
       have hbb4 := hbb3.trans (hb4.mono hbb3.size)
       clear hbb3 hb4)
    | (go_at_call 10
       refine (expand_no A n c A' n' c' k w2 (by omega)).mono ?_
       rintro e w3 ⟨rfl, hb3⟩
       have hbb3 := hbb2.trans (hb3.mono hbb2.size)
       clear hbb2 hb3))
  go_ret
  exact ⟨rfl, hbb4⟩

set_option maxRecDepth 100000 in
set_option maxHeartbeats 1000000 in
theorem begins_nn11 (A : Option Addr) (n c : Nat) (key : List Int) (A' : Option Addr) (n' c' : Nat) (b : List Int) (k m : Int) (w : World) (hr : Rd w w.heap.size A n .u8 key) (hby : Bytes key) (hr' : Rd w w.heap.size A' n' .u8 b) (hby' : Bytes b) (hn : n ≤ 500 ∧ n' ≤ 500) (hk : 8160 < k) (hm : 8160 < m) :
    Calls Try.prog 6 #[.slice A n c, .slice A' n' c', .int .i64 k, .int .i64 m] w fun e w' => e = .returned (.bool true) ∧ Below w.heap.size w w' := by
  have hd : decide (n ≤ 500 ∧ n' ≤ 500) = true := decide_eq_true hn
  have HD : Keep _ := ⟨hd⟩
  have HN : Keep (n ≤ 1000 ∧ n' ≤ 1000) := ⟨by omega⟩
  have BY : Keep _ := ⟨hby⟩
  have BY' : Keep _ := ⟨hby'⟩
  clear hd hn hby hby'
  have hk0 : ¬ k < 0 := by omega
  have hm0 : ¬ m < 0 := by omega
  go_enter Try.func6, Try.ntmps6
  go_wp2_with (first
    | (go_at_call 8; refine (awake_c _).mono ?_; rintro e w1 ⟨rfl, hb1⟩)
    | (go_at_call 9; refine (few_c A n c A' n' c' w1).mono ?_; rintro e w2 ⟨rfl, hb2⟩; rw [HD.out]; have hbb2 := hb1.trans (hb2.mono hb1.size); clear hb1 hb2)
    | (go_at_call 10
       refine (expand_no A n c A' n' c' m w3 (by omega)).mono ?_
       rintro e w4 ⟨rfl, hb4⟩
       have hbb4 := hbb3.trans (hb4.mono hbb3.size)
       clear hbb3 hb4)
    | (go_at_call 10
       refine (expand_no A n c A' n' c' k w2 (by omega)).mono ?_
       rintro e w3 ⟨rfl, hb3⟩
       have hbb3 := hbb2.trans (hb3.mono hbb2.size)
       clear hbb2 hb3))
  go_ret
  exact ⟨rfl, hbb4⟩

set_option maxRecDepth 100000 in
set_option maxHeartbeats 1000000 in
theorem begins_ny0 (A : Option Addr) (n c : Nat) (key : List Int) (A' : Option Addr) (n' c' : Nat) (b : List Int) (k : Int) (m : Nat) (w : World) (hr : Rd w w.heap.size A n .u8 key) (hby : Bytes key) (hr' : Rd w w.heap.size A' n' .u8 b) (hby' : Bytes b) (hn : n ≤ 500 ∧ n' ≤ 500) (hk : k < 0) (hm : m ≤ 8160) :
    Calls Try.prog 6 #[.slice A n c, .slice A' n' c', .int .i64 k, .int .i64 (m : Int)] w fun e w' => e = .returned (.bool true) ∧ Below w.heap.size w w' := by
  have hd : decide (n ≤ 500 ∧ n' ≤ 500) = true := decide_eq_true hn
  have HD : Keep _ := ⟨hd⟩
  have HN : Keep (n ≤ 1000 ∧ n' ≤ 1000) := ⟨by omega⟩
  have BY : Keep _ := ⟨hby⟩
  have BY' : Keep _ := ⟨hby'⟩
  clear hd hn hby hby'
  go_enter Try.func6, Try.ntmps6
  go_wp2_with (first
    | (go_at_call 8; refine (awake_c _).mono ?_; rintro e w1 ⟨rfl, hb1⟩)
    | (go_at_call 9; refine (few_c A n c A' n' c' w1).mono ?_; rintro e w2 ⟨rfl, hb2⟩; rw [HD.out]; have hbb2 := hb1.trans (hb2.mono hb1.size); clear hb1 hb2)
    | (go_at_call 10
       refine (expand_c A n c key A' n' c' b m w.heap.size w3 (hr.keep hbb3 (Nat.le_refl _)) BY.out (hr'.keep hbb3 (Nat.le_refl _)) BY'.out hbb3.size HN.out.1 HN.out.2 (by omega)).mono ?_
       rintro e w4 ⟨A4, c4, rfl, hx4, hc4, hb4⟩
       have hbb4 := hbb3.trans (hb4.mono hbb3.size)
       clear hbb3 hb4 hx4 hc4)
    | (go_at_call 10
       refine (expand_no A n c A' n' c' k w2 (by omega)).mono ?_
       rintro e w3 ⟨rfl, hb3⟩
       have hbb3 := hbb2.trans (hb3.mono hbb2.size)
       clear hbb2 hb3))
  go_ret
  exact ⟨ret_eq (show Value.bool (!decide ((m : Int) < 0) && !decide (8160 < (m : Int))) = _ by rw [decide_eq_false (by omega), decide_eq_false (by omega)]; rfl), hbb4⟩

set_option maxRecDepth 100000 in
set_option maxHeartbeats 1000000 in
theorem begins_ny1 (A : Option Addr) (n c : Nat) (key : List Int) (A' : Option Addr) (n' c' : Nat) (b : List Int) (k : Int) (m : Nat) (w : World) (hr : Rd w w.heap.size A n .u8 key) (hby : Bytes key) (hr' : Rd w w.heap.size A' n' .u8 b) (hby' : Bytes b) (hn : n ≤ 500 ∧ n' ≤ 500) (hk : 8160 < k) (hm : m ≤ 8160) :
    Calls Try.prog 6 #[.slice A n c, .slice A' n' c', .int .i64 k, .int .i64 (m : Int)] w fun e w' => e = .returned (.bool true) ∧ Below w.heap.size w w' := by
  have hd : decide (n ≤ 500 ∧ n' ≤ 500) = true := decide_eq_true hn
  have HD : Keep _ := ⟨hd⟩
  have HN : Keep (n ≤ 1000 ∧ n' ≤ 1000) := ⟨by omega⟩
  have BY : Keep _ := ⟨hby⟩
  have BY' : Keep _ := ⟨hby'⟩
  clear hd hn hby hby'
  have hk0 : ¬ k < 0 := by omega
  go_enter Try.func6, Try.ntmps6
  go_wp2_with (first
    | (go_at_call 8; refine (awake_c _).mono ?_; rintro e w1 ⟨rfl, hb1⟩)
    | (go_at_call 9; refine (few_c A n c A' n' c' w1).mono ?_; rintro e w2 ⟨rfl, hb2⟩; rw [HD.out]; have hbb2 := hb1.trans (hb2.mono hb1.size); clear hb1 hb2)
    | (go_at_call 10
       refine (expand_c A n c key A' n' c' b m w.heap.size w3 (hr.keep hbb3 (Nat.le_refl _)) BY.out (hr'.keep hbb3 (Nat.le_refl _)) BY'.out hbb3.size HN.out.1 HN.out.2 (by omega)).mono ?_
       rintro e w4 ⟨A4, c4, rfl, hx4, hc4, hb4⟩
       have hbb4 := hbb3.trans (hb4.mono hbb3.size)
       clear hbb3 hb4 hx4 hc4)
    | (go_at_call 10
       refine (expand_no A n c A' n' c' k w2 (by omega)).mono ?_
       rintro e w3 ⟨rfl, hb3⟩
       have hbb3 := hbb2.trans (hb3.mono hbb2.size)
       clear hbb2 hb3))
  go_ret
  exact ⟨ret_eq (show Value.bool (!decide ((m : Int) < 0) && !decide (8160 < (m : Int))) = _ by rw [decide_eq_false (by omega), decide_eq_false (by omega)]; rfl), hbb4⟩

set_option maxRecDepth 100000 in
set_option maxHeartbeats 1000000 in
theorem begins_yn0 (A : Option Addr) (n c : Nat) (key : List Int) (A' : Option Addr) (n' c' : Nat) (b : List Int) (k : Nat) (m : Int) (w : World) (hr : Rd w w.heap.size A n .u8 key) (hby : Bytes key) (hr' : Rd w w.heap.size A' n' .u8 b) (hby' : Bytes b) (hn : n ≤ 500 ∧ n' ≤ 500) (hk : k ≤ 8160) (hm : m < 0) :
    Calls Try.prog 6 #[.slice A n c, .slice A' n' c', .int .i64 (k : Int), .int .i64 m] w fun e w' => e = .returned (.bool true) ∧ Below w.heap.size w w' := by
  have hd : decide (n ≤ 500 ∧ n' ≤ 500) = true := decide_eq_true hn
  have HD : Keep _ := ⟨hd⟩
  have HN : Keep (n ≤ 1000 ∧ n' ≤ 1000) := ⟨by omega⟩
  have BY : Keep _ := ⟨hby⟩
  have BY' : Keep _ := ⟨hby'⟩
  clear hd hn hby hby'
  go_enter Try.func6, Try.ntmps6
  go_wp2_with (first
    | (go_at_call 8; refine (awake_c _).mono ?_; rintro e w1 ⟨rfl, hb1⟩)
    | (go_at_call 9; refine (few_c A n c A' n' c' w1).mono ?_; rintro e w2 ⟨rfl, hb2⟩; rw [HD.out]; have hbb2 := hb1.trans (hb2.mono hb1.size); clear hb1 hb2)
    | (go_at_call 10
       refine (expand_no A n c A' n' c' m w3 (by omega)).mono ?_
       rintro e w4 ⟨rfl, hb4⟩
       have hbb4 := hbb3.trans (hb4.mono hbb3.size)
       clear hbb3 hb4)
    | (go_at_call 10
       refine (expand_c A n c key A' n' c' b k w.heap.size w2 (hr.keep hbb2 (Nat.le_refl _)) BY.out (hr'.keep hbb2 (Nat.le_refl _)) BY'.out hbb2.size HN.out.1 HN.out.2 (by omega)).mono ?_
       rintro e w3 ⟨A3, c3, rfl, hx3, hc3, hb3⟩
       have hbb3 := hbb2.trans (hb3.mono hbb2.size)
       clear hbb2 hb3 hx3 hc3))
  go_ret
  exact ⟨ret_eq (show Value.bool (!decide ((k : Int) < 0) && !decide (8160 < (k : Int))) = _ by rw [decide_eq_false (by omega), decide_eq_false (by omega)]; rfl), hbb4⟩

set_option maxRecDepth 100000 in
set_option maxHeartbeats 1000000 in
theorem begins_yn1 (A : Option Addr) (n c : Nat) (key : List Int) (A' : Option Addr) (n' c' : Nat) (b : List Int) (k : Nat) (m : Int) (w : World) (hr : Rd w w.heap.size A n .u8 key) (hby : Bytes key) (hr' : Rd w w.heap.size A' n' .u8 b) (hby' : Bytes b) (hn : n ≤ 500 ∧ n' ≤ 500) (hk : k ≤ 8160) (hm : 8160 < m) :
    Calls Try.prog 6 #[.slice A n c, .slice A' n' c', .int .i64 (k : Int), .int .i64 m] w fun e w' => e = .returned (.bool true) ∧ Below w.heap.size w w' := by
  have hd : decide (n ≤ 500 ∧ n' ≤ 500) = true := decide_eq_true hn
  have HD : Keep _ := ⟨hd⟩
  have HN : Keep (n ≤ 1000 ∧ n' ≤ 1000) := ⟨by omega⟩
  have BY : Keep _ := ⟨hby⟩
  have BY' : Keep _ := ⟨hby'⟩
  clear hd hn hby hby'
  have hm0 : ¬ m < 0 := by omega
  go_enter Try.func6, Try.ntmps6
  go_wp2_with (first
    | (go_at_call 8; refine (awake_c _).mono ?_; rintro e w1 ⟨rfl, hb1⟩)
    | (go_at_call 9; refine (few_c A n c A' n' c' w1).mono ?_; rintro e w2 ⟨rfl, hb2⟩; rw [HD.out]; have hbb2 := hb1.trans (hb2.mono hb1.size); clear hb1 hb2)
    | (go_at_call 10
       refine (expand_no A n c A' n' c' m w3 (by omega)).mono ?_
       rintro e w4 ⟨rfl, hb4⟩
       have hbb4 := hbb3.trans (hb4.mono hbb3.size)
       clear hbb3 hb4)
    | (go_at_call 10
       refine (expand_c A n c key A' n' c' b k w.heap.size w2 (hr.keep hbb2 (Nat.le_refl _)) BY.out (hr'.keep hbb2 (Nat.le_refl _)) BY'.out hbb2.size HN.out.1 HN.out.2 (by omega)).mono ?_
       rintro e w3 ⟨A3, c3, rfl, hx3, hc3, hb3⟩
       have hbb3 := hbb2.trans (hb3.mono hbb2.size)
       clear hbb2 hb3 hx3 hc3))
  go_ret
  exact ⟨ret_eq (show Value.bool (!decide ((k : Int) < 0) && !decide (8160 < (k : Int))) = _ by rw [decide_eq_false (by omega), decide_eq_false (by omega)]; rfl), hbb4⟩

set_option maxRecDepth 100000 in
set_option maxHeartbeats 1000000 in
theorem begins_gt (A : Option Addr) (n c : Nat) (key : List Int) (A' : Option Addr) (n' c' : Nat) (b : List Int) (k m : Nat) (w : World) (hr : Rd w w.heap.size A n .u8 key) (hby : Bytes key) (hr' : Rd w w.heap.size A' n' .u8 b) (hby' : Bytes b) (hn : n ≤ 500 ∧ n' ≤ 500) (hk : k ≤ 8160) (hm : m ≤ 8160) (hlt : m < k) :
    Calls Try.prog 6 #[.slice A n c, .slice A' n' c', .int .i64 (k : Int), .int .i64 (m : Int)] w fun e w' => e = .returned (.bool true) ∧ Below w.heap.size w w' := by
  have hd : decide (n ≤ 500 ∧ n' ≤ 500) = true := decide_eq_true hn
  have HD : Keep _ := ⟨hd⟩
  have HN : Keep (n ≤ 1000 ∧ n' ≤ 1000) := ⟨by omega⟩
  have BY : Keep _ := ⟨hby⟩
  have BY' : Keep _ := ⟨hby'⟩
  clear hd hn hby hby'
  go_enter Try.func6, Try.ntmps6
  go_wp2_with (first
    | (go_at_call 8; refine (awake_c _).mono ?_; rintro e w1 ⟨rfl, hb1⟩)
    | (go_at_call 9; refine (few_c A n c A' n' c' w1).mono ?_; rintro e w2 ⟨rfl, hb2⟩; rw [HD.out]; have hbb2 := hb1.trans (hb2.mono hb1.size); clear hb1 hb2)
    | (go_at_call 10
       refine (expand_c A n c key A' n' c' b m w.heap.size w3 (hr.keep hbb3 (Nat.le_refl _)) BY.out (hr'.keep hbb3 (Nat.le_refl _)) BY'.out hbb3.size HN.out.1 HN.out.2 (by omega)).mono ?_
       rintro e w4 ⟨A4, c4, rfl, hx4, hc4, hb4⟩
       have hbb4 := hbb3.trans (hb4.mono hbb3.size)
       clear hbb3 hb4 hx4 hc4)
    | (go_at_call 10
       refine (expand_c A n c key A' n' c' b k w.heap.size w2 (hr.keep hbb2 (Nat.le_refl _)) BY.out (hr'.keep hbb2 (Nat.le_refl _)) BY'.out hbb2.size HN.out.1 HN.out.2 (by omega)).mono ?_
       rintro e w3 ⟨A3, c3, rfl, hx3, hc3, hb3⟩
       have hbb3 := hbb2.trans (hb3.mono hbb2.size)
       clear hbb2 hb3 hx3 hc3))
  go_ret
  exact ⟨rfl, hbb4⟩

set_option maxRecDepth 100000 in
set_option maxHeartbeats 1000000 in
theorem begins_le (A : Option Addr) (n c : Nat) (key : List Int) (A' : Option Addr) (n' c' : Nat) (b : List Int) (k m : Nat) (w : World) (hr : Rd w w.heap.size A n .u8 key) (hby : Bytes key) (hr' : Rd w w.heap.size A' n' .u8 b) (hby' : Bytes b) (hn : n ≤ 500 ∧ n' ≤ 500) (hk : k ≤ 8160) (hm : m ≤ 8160) (hlt : k ≤ m) :
    Calls Try.prog 6 #[.slice A n c, .slice A' n' c', .int .i64 (k : Int), .int .i64 (m : Int)] w fun e w' => e = .returned (.bool true) ∧ Below w.heap.size w w' := by
  have hd : decide (n ≤ 500 ∧ n' ≤ 500) = true := decide_eq_true hn
  have HD : Keep _ := ⟨hd⟩
  have HN : Keep (n ≤ 1000 ∧ n' ≤ 1000) := ⟨by omega⟩
  have BY : Keep _ := ⟨hby⟩
  have BY' : Keep _ := ⟨hby'⟩
  clear hd hn hby hby'
  obtain ⟨x, hx⟩ : ∃ x, expandL key b k = x := ⟨_, rfl⟩
  obtain ⟨y, hy⟩ : ∃ y, expandL key b m = y := ⟨_, rfl⟩
  have hxy : y.take k = x := by rw [← hx, ← hy]; exact expandL_begins key b hlt
  have HX : Keep _ := ⟨hx⟩
  have HY : Keep _ := ⟨hy⟩
  have HXY : Keep _ := ⟨hxy⟩
  clear hx hy hxy
  go_enter Try.func6, Try.ntmps6
  go_wp2_with (first
    | (go_at_call 8; refine (awake_c _).mono ?_; rintro e w1 ⟨rfl, hb1⟩)
    | (go_at_call 9; refine (few_c A n c A' n' c' w1).mono ?_; rintro e w2 ⟨rfl, hb2⟩; rw [HD.out]; have hbb2 := hb1.trans (hb2.mono hb1.size); clear hb1 hb2)
    | (go_at_call 10
       refine (expand_c A n c key A' n' c' b m w.heap.size w3 (hr.keep hbb3 (Nat.le_refl _)) BY.out (hr'.keep hbb3 (Nat.le_refl _)) BY'.out hbb3.size HN.out.1 HN.out.2 (by omega)).mono ?_
       rintro e w4 ⟨A4, c4, rfl, hx4, hc4, hb4⟩
       rw [HY.out] at hx4
       have hx3' := (hx3.keep hb4 (Nat.le_refl _)).more hb4.size
       have hx4' := hx4.take_ hlt
       rw [HXY.out] at hx4'
       have hkc : k ≤ c4 := Nat.le_trans hlt hc4
       have hbb4 := hbb3.trans (hb4.mono hbb3.size)
       clear hbb3 hb4 hx3 hx4)
    | (go_at_call 10
       refine (expand_c A n c key A' n' c' b k w.heap.size w2 (hr.keep hbb2 (Nat.le_refl _)) BY.out (hr'.keep hbb2 (Nat.le_refl _)) BY'.out hbb2.size HN.out.1 HN.out.2 (by omega)).mono ?_
       rintro e w3 ⟨A3, c3, rfl, hx3, hc3, hb3⟩
       rw [HX.out] at hx3
       have hbb3 := hbb2.trans (hb3.mono hbb2.size)
       clear hbb2 hb3 hc3)
    | (go_at_call 12
       refine (same_c A3 A4 k c3 k c4 x x w4.heap.size w4.heap.size w4 hx3' (Nat.le_refl _) hx4' (Nat.le_refl _) (by omega) (by omega)).mono ?_
       rintro e w5 ⟨rfl, hb5⟩
       rw [decide_eq_true (rfl : x = x)]
       have hbb5 := hbb4.trans (hb5.mono hbb4.size)
       clear hb5))
  go_ret
  exact ⟨rfl, hbb5⟩

theorem begins_w {w : World} {A : Option Addr} {n : Nat} (c : Nat) {key : List Int} {A' : Option Addr} {n' : Nat} (c' : Nat) {b : List Int} (k m : Int) (h : Rd w w.heap.size A n .u8 key ∧ Bytes key) (h' : Rd w w.heap.size A' n' .u8 b ∧ Bytes b) :
    Calls Try.prog 6 #[.slice A n c, .slice A' n' c', .int .i64 k, .int .i64 m] w fun e w' => e = .returned (.bool true) ∧ Below w.heap.size w w' := by
  by_cases hn : n ≤ 500 ∧ n' ≤ 500
  · rcases Int.lt_or_le k 0 with hk | hk
    · rcases Int.lt_or_le m 0 with hm | hm
      · exact begins_nn00 A n c key A' n' c' b k m w h.1 h.2 h'.1 h'.2 hn hk hm
      · rcases Int.lt_or_le 8160 m with hm' | hm'
        · exact begins_nn01 A n c key A' n' c' b k m w h.1 h.2 h'.1 h'.2 hn hk hm'
        · obtain ⟨m, rfl⟩ : ∃ z : Nat, m = z := ⟨m.toNat, by omega⟩
          exact begins_ny0 A n c key A' n' c' b k m w h.1 h.2 h'.1 h'.2 hn hk (by omega)
    · rcases Int.lt_or_le 8160 k with hk' | hk'
      · rcases Int.lt_or_le m 0 with hm | hm
        · exact begins_nn10 A n c key A' n' c' b k m w h.1 h.2 h'.1 h'.2 hn hk' hm
        · rcases Int.lt_or_le 8160 m with hm' | hm'
          · exact begins_nn11 A n c key A' n' c' b k m w h.1 h.2 h'.1 h'.2 hn hk' hm'
          · obtain ⟨m, rfl⟩ : ∃ z : Nat, m = z := ⟨m.toNat, by omega⟩
            exact begins_ny1 A n c key A' n' c' b k m w h.1 h.2 h'.1 h'.2 hn hk' (by omega)
      · obtain ⟨k, rfl⟩ : ∃ z : Nat, k = z := ⟨k.toNat, by omega⟩
        rcases Int.lt_or_le m 0 with hm | hm
        · exact begins_yn0 A n c key A' n' c' b k m w h.1 h.2 h'.1 h'.2 hn (by omega) hm
        · rcases Int.lt_or_le 8160 m with hm' | hm'
          · exact begins_yn1 A n c key A' n' c' b k m w h.1 h.2 h'.1 h'.2 hn (by omega) hm'
          · obtain ⟨m, rfl⟩ : ∃ z : Nat, m = z := ⟨m.toNat, by omega⟩
            rcases Nat.lt_or_ge m k with hlt | hlt
            · exact begins_gt A n c key A' n' c' b k m w h.1 h.2 h'.1 h'.2 hn (by omega) (by omega) hlt
            · exact begins_le A n c key A' n' c' b k m w h.1 h.2 h'.1 h'.2 hn (by omega) (by omega) hlt
  · exact begins_big A n c A' n' c' k m w hn
end Go.Proofs.Ytkjbfkhiijnemaa.Hk
