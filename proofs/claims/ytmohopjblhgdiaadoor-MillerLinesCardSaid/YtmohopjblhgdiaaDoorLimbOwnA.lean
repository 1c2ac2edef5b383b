/-
  Own text. The contracts of package limb: a word of a place, sums and differences word by word.
-/
import Derived.Test.YtmohopjblhgdiaaDoorMLimbR
import Derived.Test.YtmohopjblhgdiaaDoorBits
namespace Go.Proofs.YtmohopjblhgdiaaDoor.Limb
open Go Go.RowKit Go.Proofs.YtmohopjblhgdiaaDoor.Reg Go.Proofs.YtmohopjblhgdiaaDoor.Base Go.Proofs.YtmohopjblhgdiaaDoor.Bits

theorem wordAt_c (A : Option Addr) (n c : Nat) (l : List Int) (B : Nat) (k : Nat) (w : World) (hr : Rd w B A n .u64 l) : Calls Tryd.prog 79 #[.slice A n c, .int .i64 (k : Int)] w fun e w' => e = .returned (.int .u64 (nth l k)) ∧ w = w' := by
  rcases Nat.lt_or_ge k n with h | h
  · obtain ⟨b1, o1, rfl, hlb1, hc1⟩ := hr.at_ (by omega)
    have hcell := hc1 k h
    go_enter Tryd.func79, Tryd.ntmps79
    go_wp2
    go_ret
    exact ⟨rfl, rfl⟩
  · have e1 : nth l k = 0 := nth_ge (by rw [hr.len]; exact h)
    rw [e1]
    go_enter Tryd.func79, Tryd.ntmps79
    go_wp2
    go_ret
    exact ⟨rfl, rfl⟩

end Go.Proofs.YtmohopjblhgdiaaDoor.Limb
