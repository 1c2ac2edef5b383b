/-
  Own text. The contracts of package limb: a word of a place, sums and differences word by word.
-/
import Derived.Test.YtpgphhinelljoaaGreatDoorMLimbR
import Derived.Test.YtpgphhinelljoaaGreatDoorBits
namespace Go.Proofs.YtpgphhinelljoaaGreatDoor.Limb
open Go Go.RowKit Go.Proofs.YtpgphhinelljoaaGreatDoor.Reg Go.Proofs.YtpgphhinelljoaaGreatDoor.Base Go.Proofs.YtpgphhinelljoaaGreatDoor.Bits

theorem wordAt_c (A : Option Addr) (n c : Nat) (l : List Int) (B : Nat) (k : Nat) (w : World) (hr : Rd w B A n .u64 l) : Calls Tryz.prog 128 #[.slice A n c, .int .i64 (k : Int)] w fun e w' => e = .returned (.int .u64 (nth l k)) ∧ w = w' := by
  rcases Nat.lt_or_ge k n with h | h
  · obtain ⟨b1, o1, rfl, hlb1, hc1⟩ := hr.at_ (by omega)
    have hcell := hc1 k h
    go_enter Tryz.func128, Tryz.ntmps128
    go_wp2
    go_ret
    exact ⟨rfl, rfl⟩
  · have e1 : nth l k = 0 := nth_ge (by rw [hr.len]; exact h)
    rw [e1]
    go_enter Tryz.func128, Tryz.ntmps128
    go_wp2
    go_ret
    exact ⟨rfl, rfl⟩

end Go.Proofs.YtpgphhinelljoaaGreatDoor.Limb
