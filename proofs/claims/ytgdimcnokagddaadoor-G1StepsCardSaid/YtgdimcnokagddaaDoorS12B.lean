/-
  Own text. Sums of multiples of the base: the head by tactics, the rest by the reckoner.
-/
import Derived.Test.YtgdimcnokagddaaDoorS12L
import Derived.Test.YtgdimcnokagddaaDoorSxR
import Derived.Test.YtgdimcnokagddaaDoorMRegT
namespace Go.Proofs.YtgdimcnokagddaaDoor.S12B
set_option linter.unusedVariables false
set_option linter.unusedSimpArgs false
open Go Go.RowKit Go.Proofs.YtgdimcnokagddaaDoor.Reg Go.Proofs.YtgdimcnokagddaaDoor.Base Go.Proofs.YtgdimcnokagddaaDoor.Limb Go.Proofs.YtgdimcnokagddaaDoor.Sx Go.Proofs.YtgdimcnokagddaaDoor.Fp Go.Proofs.YtgdimcnokagddaaDoor.Fp2 Go.Proofs.YtgdimcnokagddaaDoor.Ec Go.Proofs.YtgdimcnokagddaaDoor.Pts Go.Proofs.YtgdimcnokagddaaDoor.G1K Go.Proofs.YtgdimcnokagddaaDoor.S12R Go.Proofs.YtgdimcnokagddaaDoor.S12L Go.Proofs.YtgdimcnokagddaaDoor.SxR

/-- A point's cells. -/
def ptA (A : Pt Int) : Array Value := vals .u64 (ptW K1 A) ++ #[.bool (ptB A)]
instance (A : Pt Int) : Cz 13 (ptA A) := ⟨by simp [ptA, vals_size, (nm_ptW K1 A).len]; rfl, by simp [ptA, vals, Value.oneCell']⟩
theorem ptA_den (A : Pt Int) : (den [.nums 12 (ptW K1 (A)), .nm (.bl (ptB (A)))]).toArray = ptA A := by simp [den, Sg.den, NV.den, ptA, vals]
instance : Agg Tryd.prog 27 13 := .of Tryd.underlying27 (by kernel_rfl) rfl
def sl0 : List AV := mkSl 66 [(7, .val (.bool true)), (8, .ptr 0 0), (9, .ptr 1 0), (10, .ptr 2 0), (13, .ptr 3 0), (14, .val (.int .i64 0))]
def bs0 (a b c s o : Int) : List Bk := [(27, [.nums 12 (ptW K1 (PtK a false)), .nm (.bl (ptB (PtK a false)))]), (27, [.nums 12 (ptW K1 (PtK b false)), .nm (.bl (ptB (PtK b false)))]), (27, [.nums 12 (ptW K1 (PtK c true)), .nm (.bl (ptB (PtK c true)))]), (27, [.nums 12 (ptW K1 (mulO K1 (K1.F.int 4) (num [s, o]).toNat (ptv K1 BL false))), .nm (.bl (ptB (mulO K1 (K1.F.int 4) (num [s, o]).toNat (ptv K1 BL false))))])]
/-- A multiple of the base. -/
abbrev B_ : Pt Int := ptv K1 BL false
theorem awake_c (w : World) (hG : GlobD w) : Calls Tryd.prog 11 #[] w fun e w' => e = .returned (.bool true) ∧ RowKit.Below w.heap.size w w' := (awake [] trivial trivial).2.2 w hG [] trivial
theorem mulA_den (m : Nat) (x : List Int) (b : Bool) : (mulA m x b).den [] = .tuple #[.agg (ptA (mulO K1 (K1.F.int 4) m (ptv K1 x b))), .int .i64 (if onB K1 (K1.F.int 4) (ptv K1 x b) = true then 0 else 120)] := by
  simp [mulA, AV.den, TV.den, den, Sg.den, NV.den, ptA, vals]
theorem mul_c (x : List Int) (hx : Nm 12 x) (b : Bool) (A : Option Addr) (n c : Nat) (l : List Int) (B : Nat) (w : World) (hG : GlobD w) (hr : Rd w B A n .u64 l) (hw : Words l) (hB : B ≤ w.heap.size) (hn : n ≤ 10000) : Calls Tryd.prog 22 #[.slice A n c, .agg (vals .u64 x ++ #[.bool b])] w fun e w' => e = .returned (.tuple #[.agg (ptA (mulO K1 (K1.F.int 4) (num l).toNat (ptv K1 x b))), .int .i64 (if onB K1 (K1.F.int 4) (ptv K1 x b) = true then 0 else 120)]) ∧ RowKit.Below w.heap.size w w' := by
  have h := (S12O.lMul [.sl n l, .p x b] ⟨⟨hn, hr.len, hw⟩, hx, trivial⟩ trivial).2.2 w hG [Value.slice A n c, Value.agg (vals .u64 x ++ #[Value.bool b])] ⟨⟨A, c, rfl, B, hB, hr⟩, rfl, trivial⟩
  rwa [show (oM mulA [.sl n l, .p x b]).den [] = _ from mulA_den _ _ _] at h
end Go.Proofs.YtgdimcnokagddaaDoor.S12B
