/-
  Own text. Numbers of the base field and numbers with u as arguments: so many words.
-/
import Derived.Test.YtdldebceailgdaaDoorArr2
import Derived.Test.YtdldebceailgdaaDoorFp2Spec
namespace Go.Proofs.YtdldebceailgdaaDoor.Fp2
open Go Go.RowKit Go.Proofs.YtdldebceailgdaaDoor.Reg
section
variable {H : Type} {enc : TypeId × Value → H} {w : World} {base : Nat} {spare : Nat → Bool} {held : Bool}
theorem flat_fp : Flat enc Tryd.prog w base spare held .u64 24 6 := flat_arr (n := 1) (m := 6) (flat_int Tryd.underlying22) Tryd.underlying24 (by kernel_rfl) (by kernel_rfl)
theorem flat_fp2 : Flat enc Tryd.prog w base spare held .u64 26 12 := flat_struct (n := 6) (m := 2) flat_fp Tryd.underlying26 (by kernel_rfl) (by kernel_rfl) (by kernel_rfl)
end
theorem nm_flat {n : Nat} {l : List Int} (h : l.length = n) (hw : ∀ z ∈ l, (Lit.int .u64 z).wf = true) : Nm n l := ⟨h, Limb.words_wf hw⟩
end Go.Proofs.YtdldebceailgdaaDoor.Fp2
