/-
  Own text.
-/
import Derived.Test.YtjamcbjghffboaaGreatDoorLimbOwnA
namespace Go.Proofs.YtjamcbjghffboaaGreatDoor
namespace Limb
open Go Go.RowKit Reg Base
def ln (b:List Int)(n:Nat):Nat->Int
 |0=>0
 |i+1=>ln b n i+nth b (n-1-i)*tp (8*i)
theorem tp_le {i j:Nat}(h:i<=j):tp i<=tp j:=by
 obtain⟨d,rfl⟩:∃d,j=i+d:=⟨j-i,by omega⟩
 rw[tp_add]
 have h1:=tp_pos i
 have h2:=tp_pos d
 have:tp i*1<=tp i*tp d:=Int.mul_le_mul_of_nonneg_left (by omega) (by omega)
 omega
theorem or_up {z x:Int}(s:Nat)(hz0:0<=z)(hz:z<2^s)(hz1:z<18446744073709551616)(hx0:0<=x)(hx:x%2^s=0)(hx1:x<18446744073709551616):bits .or .u64 z x=z+x:=by
 have hc:bits .or .u64 z x=bits .or .u64 x z:=by simp only[bits,BitVec.or_comm]
 rw[hc,bits_join .u64 64 (by decide) (fun n h0 h1=>by rw[IntKind.wrap_u64];omega) s x z hx0 hx hx1 hz0 hz hz1,Int.add_comm]
end Limb
end Go.Proofs.YtjamcbjghffboaaGreatDoor
