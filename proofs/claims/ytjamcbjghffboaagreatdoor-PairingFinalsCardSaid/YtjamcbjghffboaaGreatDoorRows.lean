/-
  NARROWER THAN 'FOR EVERY INPUT', by the rows' own cells (each row's printed sentence says how): PairingFinals: laid · PairingPairs: laid.
  DERIVED. THE GIVEN ROWS OF THIS SEAT. 2 by the template 'for every input the law returns true; each argument reads behind the call as it read before'; 0 by the template 'total and deterministic' (their statements: YtjamcbjghffboaaGreatDoorTotals.lean).
  GIVEN WITH THE SEED: the statements are not yours to turn. If you find one false, say at which input.
  Laid BY PROGRAM, IN A SANDBOX (cutbox-rows.mjs): the forced cells as the released guide's own fill.sh prints them over the translation b8ba302409c01624… (all of the seat's roots in one cut). By AI agents, Wed Nov 11 2026. No macro, syntax, notation, axiom, sorry.
-/
import Derived.Test.YtjamcbjghffboaaGreatDoorChecked
import GoSem.Claim
import GoSem.ClaimJoined
import GoSem.ClaimMapViews
import Derived.JoinedTies
import Derived.KernelRfl
namespace Go.Proofs.YtjamcbjghffboaaGreatDoor
/- THE CELL 'sum', in the pinned program and in every row, IS THE sha256 OF THE DUMP (.gsa) THAT YtjamcbjghffboaaGreatDoorProg.lean LOADS. Nothing in Lean hashes anything: it is a label: what it is worth is what the hold of that sum in a sandbox is worth. -/
noncomputable def Tryz.pinned : Pinned := { name := "ytjamcbjghffboaagreatdoor", sum := "b8ba302409c016241f969a211d7bb050f70efb55840c1fa59f8c5e79d13b9129", checked := Tryz.checked }
namespace Rows
def none {H : Type} : Left H := { results := [], args := [] }

/- WHAT THE LISTED PACKAGE-LEVEL VARIABLES READ AS WHEN THE CALL BEGINS. Each datum BY PROGRAM (the guide's laid-datum.mjs) off the statement by which the dump's own 'gosem.cut.vars' lays the variable. In a bare row this is a premise. The card (YtjamcbjghffboaaGreatDoorCards.lean) ties it to the program's text. -/
def laid_math_bits_deBruijn64tab {H : Type} : DataW H := .agg [.lit (.int .u8 0), .lit (.int .u8 1), .lit (.int .u8 56), .lit (.int .u8 2), .lit (.int .u8 57), .lit (.int .u8 49), .lit (.int .u8 28), .lit (.int .u8 3), .lit (.int .u8 61), .lit (.int .u8 58), .lit (.int .u8 42), .lit (.int .u8 50), .lit (.int .u8 38), .lit (.int .u8 29), .lit (.int .u8 17), .lit (.int .u8 4), .lit (.int .u8 62), .lit (.int .u8 47), .lit (.int .u8 59), .lit (.int .u8 36), .lit (.int .u8 45), .lit (.int .u8 43), .lit (.int .u8 51), .lit (.int .u8 22), .lit (.int .u8 53), .lit (.int .u8 39), .lit (.int .u8 33), .lit (.int .u8 30), .lit (.int .u8 24), .lit (.int .u8 18), .lit (.int .u8 12), .lit (.int .u8 5), .lit (.int .u8 63), .lit (.int .u8 55), .lit (.int .u8 48), .lit (.int .u8 27), .lit (.int .u8 60), .lit (.int .u8 41), .lit (.int .u8 37), .lit (.int .u8 16), .lit (.int .u8 46), .lit (.int .u8 35), .lit (.int .u8 44), .lit (.int .u8 21), .lit (.int .u8 52), .lit (.int .u8 32), .lit (.int .u8 23), .lit (.int .u8 11), .lit (.int .u8 54), .lit (.int .u8 26), .lit (.int .u8 40), .lit (.int .u8 15), .lit (.int .u8 34), .lit (.int .u8 20), .lit (.int .u8 31), .lit (.int .u8 10), .lit (.int .u8 25), .lit (.int .u8 14), .lit (.int .u8 19), .lit (.int .u8 9), .lit (.int .u8 13), .lit (.int .u8 8), .lit (.int .u8 7), .lit (.int .u8 6)]
def laid_sigil_fp_prime {H : Type} : DataW H := .agg [.lit (.int .u64 13402431016077863595), .lit (.int .u64 2210141511517208575), .lit (.int .u64 7435674573564081700), .lit (.int .u64 7239337960414712511), .lit (.int .u64 5412103778470702295), .lit (.int .u64 1873798617647539866)]
def laid_sigil_fp_residues {H : Type} : DataW H := .agg [.agg [.lit (.int .u64 8505329371266088957), .lit (.int .u64 17002214543764226050), .lit (.int .u64 6865905132761471162), .lit (.int .u64 8632934651105793861), .lit (.int .u64 6631298214892334189), .lit (.int .u64 1582556514881692819)], .agg [.lit (.int .u64 4807590280750076774), .lit (.int .u64 8612159356199394243), .lit (.int .u64 12878354973820563945), .lit (.int .u64 2337167537087690866), .lit (.int .u64 6431483094484234427), .lit (.int .u64 293241525500371865)], .agg [.lit (.int .u64 10843886736844221597), .lit (.int .u64 4986109583520628558), .lit (.int .u64 9383303180058691654), .lit (.int .u64 1580741160401819599), .lit (.int .u64 18066133864166594236), .lit (.int .u64 201357114324440772)], .agg [.lit (.int .u64 11396969636769438951), .lit (.int .u64 14906441553275738803), .lit (.int .u64 11575976719427520033), .lit (.int .u64 16041729168491046160), .lit (.int .u64 17227550989889470529), .lit (.int .u64 1634297007776406087)], .agg [.lit (.int .u64 530084278580445711), .lit (.int .u64 4523507806283684619), .lit (.int .u64 1624132434792508366), .lit (.int .u64 9756551939738585554), .lit (.int .u64 1581692023382530096), .lit (.int .u64 1123129913263140485)], .agg [.lit (.int .u64 18197539513313378263), .lit (.int .u64 5220802458584164551), .lit (.int .u64 14995588168058310184), .lit (.int .u64 2582428486095855617), .lit (.int .u64 11648352368840172979), .lit (.int .u64 145533648938993496)]]
def laid_sigil_frob_byFirst {H : Type} : DataW H := .agg [.agg [.agg [.lit (.int .u64 1), .lit (.int .u64 0), .lit (.int .u64 0), .lit (.int .u64 0), .lit (.int .u64 0), .lit (.int .u64 0)], .agg [.lit (.int .u64 0), .lit (.int .u64 0), .lit (.int .u64 0), .lit (.int .u64 0), .lit (.int .u64 0), .lit (.int .u64 0)]], .agg [.agg [.lit (.int .u64 10162220747404304312), .lit (.int .u64 17761815663483519293), .lit (.int .u64 8873291758750579140), .lit (.int .u64 1141103941765652303), .lit (.int .u64 13993175198059990303), .lit (.int .u64 1802798568193066599)], .agg [.lit (.int .u64 3240210268673559283), .lit (.int .u64 2895069921743240898), .lit (.int .u64 17009126888523054175), .lit (.int .u64 6098234018649060207), .lit (.int .u64 9865672654120263608), .lit (.int .u64 71000049454473266)]], .agg [.agg [.lit (.int .u64 0), .lit (.int .u64 0), .lit (.int .u64 0), .lit (.int .u64 0), .lit (.int .u64 0), .lit (.int .u64 0)], .agg [.lit (.int .u64 10087218740379822764), .lit (.int .u64 4653388206581612541), .lit (.int .u64 9907120269317136283), .lit (.int .u64 12253596935368579796), .lit (.int .u64 17006226088849104517), .lit (.int .u64 1873798617647539865)]], .agg [.agg [.lit (.int .u64 14416168624775744521), .lit (.int .u64 17178867732698629620), .lit (.int .u64 8644499054833844677), .lit (.int .u64 5204293836692734814), .lit (.int .u64 7508032112903159806), .lit (.int .u64 481619096434065419)], .agg [.lit (.int .u64 14416168624775744521), .lit (.int .u64 17178867732698629620), .lit (.int .u64 8644499054833844677), .lit (.int .u64 5204293836692734814), .lit (.int .u64 7508032112903159806), .lit (.int .u64 481619096434065419)]], .agg [.agg [.lit (.int .u64 10087218740379822765), .lit (.int .u64 4653388206581612541), .lit (.int .u64 9907120269317136283), .lit (.int .u64 12253596935368579796), .lit (.int .u64 17006226088849104517), .lit (.int .u64 1873798617647539865)], .agg [.lit (.int .u64 0), .lit (.int .u64 0), .lit (.int .u64 0), .lit (.int .u64 0), .lit (.int .u64 0), .lit (.int .u64 0)]], .agg [.agg [.lit (.int .u64 11175958356102185238), .lit (.int .u64 14283797810955388722), .lit (.int .u64 10082116240020342118), .lit (.int .u64 17552803891753226222), .lit (.int .u64 16089103532492447813), .lit (.int .u64 410619046979592152)], .agg [.lit (.int .u64 2226472659975678357), .lit (.int .u64 6373087774271371469), .lit (.int .u64 15800302407253291197), .lit (.int .u64 8133278142371037904), .lit (.int .u64 7769744319687806097), .lit (.int .u64 1463179570667947713)]]]
def laid_sigil_frob_bySecond {H : Type} : DataW H := .agg [.agg [.lit (.int .u64 1), .lit (.int .u64 0), .lit (.int .u64 0), .lit (.int .u64 0), .lit (.int .u64 0), .lit (.int .u64 0)], .agg [.lit (.int .u64 3315212275698040831), .lit (.int .u64 16003497378645147650), .lit (.int .u64 15975298377956497032), .lit (.int .u64 13432485098755684330), .lit (.int .u64 6852621763331149393), .lit (.int .u64 0)], .agg [.lit (.int .u64 3315212275698040830), .lit (.int .u64 16003497378645147650), .lit (.int .u64 15975298377956497032), .lit (.int .u64 13432485098755684330), .lit (.int .u64 6852621763331149393), .lit (.int .u64 0)], .agg [.lit (.int .u64 13402431016077863594), .lit (.int .u64 2210141511517208575), .lit (.int .u64 7435674573564081700), .lit (.int .u64 7239337960414712511), .lit (.int .u64 5412103778470702295), .lit (.int .u64 1873798617647539866)], .agg [.lit (.int .u64 10087218740379822764), .lit (.int .u64 4653388206581612541), .lit (.int .u64 9907120269317136283), .lit (.int .u64 12253596935368579796), .lit (.int .u64 17006226088849104517), .lit (.int .u64 1873798617647539865)], .agg [.lit (.int .u64 10087218740379822765), .lit (.int .u64 4653388206581612541), .lit (.int .u64 9907120269317136283), .lit (.int .u64 12253596935368579796), .lit (.int .u64 17006226088849104517), .lit (.int .u64 1873798617647539865)]]
def laid_sigil_sub_beta {H : Type} : DataW H := .agg [.lit (.int .u64 3315212275698040830), .lit (.int .u64 16003497378645147650), .lit (.int .u64 15975298377956497032), .lit (.int .u64 13432485098755684330), .lit (.int .u64 6852621763331149393), .lit (.int .u64 0)]
def laid_sigil_sub_backX {H : Type} : DataW H := .agg [.agg [.lit (.int .u64 0), .lit (.int .u64 0), .lit (.int .u64 0), .lit (.int .u64 0), .lit (.int .u64 0), .lit (.int .u64 0)], .agg [.lit (.int .u64 10087218740379822765), .lit (.int .u64 4653388206581612541), .lit (.int .u64 9907120269317136283), .lit (.int .u64 12253596935368579796), .lit (.int .u64 17006226088849104517), .lit (.int .u64 1873798617647539865)]]
def laid_sigil_sub_backY {H : Type} : DataW H := .agg [.agg [.lit (.int .u64 17433006465011670690), .lit (.int .u64 3478017852528130570), .lit (.int .u64 17237919592439788638), .lit (.int .u64 2035044123721977696), .lit (.int .u64 16350815739277094105), .lit (.int .u64 1392179521213474446)], .agg [.lit (.int .u64 14416168624775744521), .lit (.int .u64 17178867732698629620), .lit (.int .u64 8644499054833844677), .lit (.int .u64 5204293836692734814), .lit (.int .u64 7508032112903159806), .lit (.int .u64 481619096434065419)]]

/-- 'sigillaw16.PairingFinals': WHATEVER THE INPUT: true; the input reads as it did. -/
def pairingFinalsSpec : ChangeSpec := { name := "pairingFinals", fn := fun _ => fun
  | [d] => { results := [.lit (.bool true)], args := [d] }
  | _ => none }
def pairingFinalsRow : OpenClaim := { program := "ytjamcbjghffboaagreatdoor", sum := "b8ba302409c016241f969a211d7bb050f70efb55840c1fa59f8c5e79d13b9129", func := "sigil/sigillaw16.PairingFinals", spec := "pairingFinals", inPlace := ["math/bits.Add64", "math/bits.Sub64"], unfollowed := true, recurses := true, named := ["sigil/sub.beta", "sigil/fp.residues", "sigil/fp.prime", "math/bits.deBruijn64tab", "sigil/sub.backX", "sigil/sub.backY", "sigil/frob.byFirst", "sigil/frob.bySecond", "math/bits.divideError", "math/bits.overflowError"], apart := false, laid := [("math/bits.deBruijn64tab", laid_math_bits_deBruijn64tab), ("sigil/fp.prime", laid_sigil_fp_prime), ("sigil/fp.residues", laid_sigil_fp_residues), ("sigil/frob.byFirst", laid_sigil_frob_byFirst), ("sigil/frob.bySecond", laid_sigil_frob_bySecond), ("sigil/sub.beta", laid_sigil_sub_beta), ("sigil/sub.backX", laid_sigil_sub_backX), ("sigil/sub.backY", laid_sigil_sub_backY)] }
def PairingFinalsSaid : Prop := pairingFinalsRow.holds Tryz.pinned (OpenSpec.ofChange pairingFinalsSpec)

/-- ITS FALSE NEIGHBOUR: 'it returns false'. Refute it at one input. -/
def pairingFinalsWrong : ChangeSpec := { name := "pairingFinals", fn := fun _ => fun
  | [d] => { results := [.lit (.bool false)], args := [d] }
  | _ => none }
def PairingFinalsWrongFalsely : Prop := pairingFinalsRow.holds Tryz.pinned (OpenSpec.ofChange pairingFinalsWrong)

/-- 'sigillaw16.PairingPairs': WHATEVER THE INPUT: true; the input reads as it did. -/
def pairingPairsSpec : ChangeSpec := { name := "pairingPairs", fn := fun _ => fun
  | [d1, d2] => { results := [.lit (.bool true)], args := [d1, d2] }
  | _ => none }
def pairingPairsRow : OpenClaim := { program := "ytjamcbjghffboaagreatdoor", sum := "b8ba302409c016241f969a211d7bb050f70efb55840c1fa59f8c5e79d13b9129", func := "sigil/sigillaw16.PairingPairs", spec := "pairingPairs", inPlace := ["math/bits.Add64", "math/bits.Sub64"], unfollowed := true, recurses := true, named := ["sigil/sub.beta", "sigil/fp.residues", "sigil/fp.prime", "math/bits.deBruijn64tab", "sigil/sub.backX", "sigil/sub.backY", "sigil/frob.byFirst", "sigil/frob.bySecond", "math/bits.divideError", "math/bits.overflowError"], apart := false, laid := [("math/bits.deBruijn64tab", laid_math_bits_deBruijn64tab), ("sigil/fp.prime", laid_sigil_fp_prime), ("sigil/fp.residues", laid_sigil_fp_residues), ("sigil/frob.byFirst", laid_sigil_frob_byFirst), ("sigil/frob.bySecond", laid_sigil_frob_bySecond), ("sigil/sub.beta", laid_sigil_sub_beta), ("sigil/sub.backX", laid_sigil_sub_backX), ("sigil/sub.backY", laid_sigil_sub_backY)] }
def PairingPairsSaid : Prop := pairingPairsRow.holds Tryz.pinned (OpenSpec.ofChange pairingPairsSpec)

/-- ITS FALSE NEIGHBOUR: 'it returns false'. Refute it at one input. -/
def pairingPairsWrong : ChangeSpec := { name := "pairingPairs", fn := fun _ => fun
  | [d1, d2] => { results := [.lit (.bool false)], args := [d1, d2] }
  | _ => none }
def PairingPairsWrongFalsely : Prop := pairingPairsRow.holds Tryz.pinned (OpenSpec.ofChange pairingPairsWrong)

/- THE SECOND FORM. 'bulk': how many values and letters a reading holds, each counted each time it is reached (what is shared counts as often as it is met; a slice's spare places count too). A statement '..UptoSaid' is the law's where the arguments, and the package variables that the reading takes, are together of bulk at most 1048576: NARROWER than '..Said'. Prove '..Said' where nothing that the law and all that it calls make is longer than what came in: it says more and counts as full. Else prove '..UptoSaid'. A law counts once. -/
mutual
def uptoBulk {H : Type} : DataW H → Nat
  | .lit (.string bytes) => bytes.length + 1
  | .lit _ => 1
  | .nil => 1
  | .ptr d => uptoBulk d + 1
  | .slice elems spare => uptoBulkAll elems + uptoBulkAll spare + 1
  | .agg parts => uptoBulkAll parts + 1
  | .iface _ d => uptoBulk d + 1
  | .map entries => uptoBulkEntries entries + 1
  | .held _ => 1
def uptoBulkAll {H : Type} : List (DataW H) → Nat
  | [] => 0
  | d :: r => uptoBulk d + uptoBulkAll r
def uptoBulkEntries {H : Type} : List (Lit × DataW H) → Nat
  | [] => 0
  | x :: r => uptoBulkEntry x + uptoBulkEntries r
def uptoBulkEntry {H : Type} : Lit × DataW H → Nat
  | (.string bytes, d) => bytes.length + uptoBulk d + 1
  | (_, d) => uptoBulk d + 1
 end
def uptoSmall : (H : Type) → List (DataW H) → Bool := fun _ ds => decide (uptoBulkAll ds ≤ 1048576)
def OpenSpec.upto (s : _root_.Go.ChangeSpec) : _root_.Go.OpenSpec := { _root_.Go.OpenSpec.ofChange s with cond := some uptoSmall }

/-- 'sigillaw16.PairingFinals', WHERE WHAT IT READS IS OF BULK AT MOST 1048576: true; the input reads as it did. -/
def pairingFinalsUptoRow : OpenClaim := { program := "ytjamcbjghffboaagreatdoor", sum := "b8ba302409c016241f969a211d7bb050f70efb55840c1fa59f8c5e79d13b9129", func := "sigil/sigillaw16.PairingFinals", spec := "pairingFinals", inPlace := ["math/bits.Add64", "math/bits.Sub64"], unfollowed := true, recurses := true, named := ["sigil/sub.beta", "sigil/fp.residues", "sigil/fp.prime", "math/bits.deBruijn64tab", "sigil/sub.backX", "sigil/sub.backY", "sigil/frob.byFirst", "sigil/frob.bySecond", "math/bits.divideError", "math/bits.overflowError"], apart := false, laid := [("math/bits.deBruijn64tab", laid_math_bits_deBruijn64tab), ("sigil/fp.prime", laid_sigil_fp_prime), ("sigil/fp.residues", laid_sigil_fp_residues), ("sigil/frob.byFirst", laid_sigil_frob_byFirst), ("sigil/frob.bySecond", laid_sigil_frob_bySecond), ("sigil/sub.beta", laid_sigil_sub_beta), ("sigil/sub.backX", laid_sigil_sub_backX), ("sigil/sub.backY", laid_sigil_sub_backY)], narrowed := true }
def PairingFinalsUptoSaid : Prop := pairingFinalsUptoRow.holds Tryz.pinned (OpenSpec.upto pairingFinalsSpec)

/-- 'sigillaw16.PairingPairs', WHERE WHAT IT READS IS OF BULK AT MOST 1048576: true; the input reads as it did. -/
def pairingPairsUptoRow : OpenClaim := { program := "ytjamcbjghffboaagreatdoor", sum := "b8ba302409c016241f969a211d7bb050f70efb55840c1fa59f8c5e79d13b9129", func := "sigil/sigillaw16.PairingPairs", spec := "pairingPairs", inPlace := ["math/bits.Add64", "math/bits.Sub64"], unfollowed := true, recurses := true, named := ["sigil/sub.beta", "sigil/fp.residues", "sigil/fp.prime", "math/bits.deBruijn64tab", "sigil/sub.backX", "sigil/sub.backY", "sigil/frob.byFirst", "sigil/frob.bySecond", "math/bits.divideError", "math/bits.overflowError"], apart := false, laid := [("math/bits.deBruijn64tab", laid_math_bits_deBruijn64tab), ("sigil/fp.prime", laid_sigil_fp_prime), ("sigil/fp.residues", laid_sigil_fp_residues), ("sigil/frob.byFirst", laid_sigil_frob_byFirst), ("sigil/frob.bySecond", laid_sigil_frob_bySecond), ("sigil/sub.beta", laid_sigil_sub_beta), ("sigil/sub.backX", laid_sigil_sub_backX), ("sigil/sub.backY", laid_sigil_sub_backY)], narrowed := true }
def PairingPairsUptoSaid : Prop := pairingPairsUptoRow.holds Tryz.pinned (OpenSpec.upto pairingPairsSpec)

end Rows
end Go.Proofs.YtjamcbjghffboaaGreatDoor
