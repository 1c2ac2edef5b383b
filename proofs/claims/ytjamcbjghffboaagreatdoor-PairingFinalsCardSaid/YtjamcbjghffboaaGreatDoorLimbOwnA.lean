/-
  Own text.
-/
import Derived.Test.YtjamcbjghffboaaGreatDoorMLimbR
import Derived.Test.YtjamcbjghffboaaGreatDoorBits
namespace Go.Proofs.YtjamcbjghffboaaGreatDoor
namespace Limb
open Go Go.RowKit Reg Base Bits
theorem wordAt_c (A:Option Addr)(n c:Nat)(l:List Int)(B:Nat)(k:Nat)(w:World)(hr:Rd w B A n .u64 l):Calls Tryz.prog 180 #[.slice A n c,.int .i64 (k:Int)] w fun e w'=>e=.returned (.int .u64 (nth l k))/\w=w':=by
 rcases Nat.lt_or_ge k n with h|h
 ·obtain⟨b1,o1,rfl,hlb1,hc1⟩:=hr.at_ (by omega)
  have hcell:=hc1 k h
  go_enter Tryz.func180,Tryz.ntmps180
  go_wp2
  go_ret
  exact⟨rfl,rfl⟩
 ·have e1:nth l k=0:=nth_ge (by rw[hr.len];exact h)
  rw[e1]
  go_enter Tryz.func180,Tryz.ntmps180
  go_wp2
  go_ret
  exact⟨rfl,rfl⟩
end Limb
end Go.Proofs.YtjamcbjghffboaaGreatDoor
