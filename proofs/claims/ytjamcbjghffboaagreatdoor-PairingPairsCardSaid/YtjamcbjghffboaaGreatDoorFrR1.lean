/-
  Own text.
-/
import Derived.Test.YtjamcbjghffboaaGreatDoorMReg
set_option linter.unusedVariables false
set_option linter.unusedSimpArgs false
set_option maxRecDepth 100000
namespace Go.Proofs.YtjamcbjghffboaaGreatDoor
namespace FrR
open Go Go.RowKit Reg Base Limb
def mL:List Int:=[18446744069414584321,6034159408538082302,3691218898639771653,8353516859464449352]
def Z4:List Int:=[0,0,0,0]
theorem mL_words:Words mL:=words_of _ (by decide)
set_option maxHeartbeats 2000000 in
theorem refR_c (w:World):Calls Tryz.prog 90 #[] w fun e w'=>e=.returned (.agg (vals .u64 mL))/\Below w.heap.size w w':=by
 have hR:Has (w.alloc (.cells (vals .u64 Z4) 92)) w.heap.size 92 (vals .u64 Z4):=Has.new _ _ _
 have hb:Below w.heap.size w (w.alloc (.cells (vals .u64 Z4) 92)):=(Below.refl _ _).alloc (Nat.le_refl _) _
 go_enter Tryz.func90,Tryz.ntmps90
 go_wp2_with (first
  |(refine wpList_buildFlatArrTo rfl 92 22 4 _ rfl .u64 mL (some 1) rfl Tryz.underlying92 (by kernel_rfl) (by kernel_rfl) rfl ?_)
  |(refine wpList_store_rowTo rfl 92 (.tmp 0) (.tmp 1) rfl rfl w.heap.size (vals .u64 mL) rfl rfl _ _ hR.eq (by kernel_rfl) (by rfl) vals_one ?_))
 refine bodyPost_ret (v:=.agg (vals .u64 mL)) (results_cell_row rfl _ _ w.heap.size _ _ _ _ rfl (hR.row _).eq Tryz.underlying92 rfl (by kernel_rfl)) rfl ⟨rfl,below_row hb (Nat.le_refl _) _⟩
set_option maxHeartbeats 2000000 in
theorem refR1_c (w:World):Calls Tryz.prog 50 #[] w fun e w'=>∃A c,e=.returned (.slice A 4 c)/\Own w' w.heap.size 22 .u64 A 4 c mL/\Below w.heap.size w w':=by
  have LZ:Keep (Z4.length=4):=⟨rfl⟩
  have LM:Keep (mL.length=4):=⟨rfl⟩
  obtain⟨S,hS⟩:∃S,w.heap.size=S:=⟨_,rfl⟩
  have hsz0:w.heap.size=S+0:=hS
  have hb0:Below S w w:=Below.refl _ _
  have HSS:Keep (∀x:World,Below S w x->S<=x.heap.size):=⟨fun x hb=>by have:=hb.size;omega⟩
  rw[hS]
  go_enter Tryz.func50,Tryz.ntmps50
  go_wp2_with (first
    | (refine append_abs (by rfl) (.tmp 3) (.tmp 4) 50 (by rfl) S 22 .u64 8 Tryz.underlying50 u64Elem (some ⟨w2.heap.size,0,none⟩) 0 0 [] (by rfl) (Own.of_has (Has.new w2 22 (vals .u64 [])) (HSS.out _ hb2) (Nat.zero_le _)) w2.heap.size (some ⟨w1.heap.size,0,none⟩) 4 4 mL (by rfl) (Rd.of_has (qm2.keep ((Below.refl w2.heap.size w2).alloc (Nat.le_refl _) _)) qm2.lt (by rfl) (by decide)) 4 (by rfl) mL (by rfl) (by omega) (by unfold maxLen;omega) (by have:=HSS.out _ hb2;simp;omega) ?_
       intro A5 c5 w5 ho5 hbx
       have hb5:=(hb2.alloc (HSS.out _ hb2) (.cells (vals .u64 []) 22)).trans hbx
       clear hbx hb2 qm2)
    | (refine store_abs2 (by rfl) 92 (.tmp 1) (.tmp 2) (by rfl) (by rfl) (w1.heap.size) (vals .u64 mL) (by rfl) (by rfl) 92 (vals .u64 Z4) (Has.new' _ rfl _ _) (by rw[vals_size,LM.out];kernel_rfl) (by first|rfl|(rw[vals_size,vals_size,LM.out];rfl)) vals_one ?_
       intro w2 qm2 hkeep hbg
       have hbe:=((Below.refl (w1).heap.size (w1)).alloc (Nat.le_refl _) (.cells (vals .u64 Z4) 92)).trans hbg
       have Mm:Keep (S<=w1.heap.size):=⟨HSS.out _ hb1⟩
       have hb2:=hb1.trans (hbe.mono (HSS.out _ hb1))
       clear hkeep hbg hbe hb1 )
    | (have hq0:=hb0
       clear hq0
       go_at_call 90
       refine (refR_c _).mono ?_
       rintro e w1 ⟨rfl,hq⟩
       have hb1:=hb0.trans (hq.mono (HSS.out _ hb0))
       clear hq hb0 ))
  go_ret
  exact⟨_,_,rfl,ho5,hb5⟩
end FrR
end Go.Proofs.YtjamcbjghffboaaGreatDoor
