/-
  Own text.
-/
import Derived.Test.YtjamcbjghffboaaGreatDoorLimbOwnA
namespace Go.Proofs.YtjamcbjghffboaaGreatDoor
namespace Limb
open Go Go.RowKit Reg Base Bits
structure Only (g:Nat) (w w':World):Prop where
 os:w'.os=w.os
 tape:w'.tape=w.tape
 output:w'.output=w.output
 size:w.heap.size<=w'.heap.size
 block:∀k,k<w.heap.size->k≠g->w'.heap[k]? = w.heap[k]?
section
variable {g B:Nat} {a w w':World}
theorem Only.refl (g:Nat)(w:World):Only g w w:=⟨rfl,rfl,rfl,Nat.le_refl _,fun _ _ _=>rfl⟩
theorem Only.trans (h:Only g a w)(k:Only g w w'):Only g a w':=
 ⟨k.os.trans h.os,k.tape.trans h.tape,k.output.trans h.output,Nat.le_trans h.size k.size,fun i hi hne=>(k.block i (Nat.lt_of_lt_of_le hi h.size) hne).trans (h.block i hi hne)⟩
theorem Only.set_ (h:Only g a w){p:Addr}(hp:p.block=g)(v:Value):Only g a (w.setCell p v):=by
 refine⟨h.os,h.tape,h.output,?_,fun i hi hne=>?_⟩
 ·have:=((Below.refl 0 w).setCell (p:=p) (Nat.zero_le _) v).size
  exact Nat.le_trans h.size this
 ·rw[heap_setCell_other w p i v (by rw[hp];exact hne)]
  exact h.block i hi hne
theorem Only.below (h:Only g w w')(hB:B<=g)(hB':B<=w.heap.size):Below B w w':=⟨h.os,h.tape,h.output,h.size,fun k hk=>h.block k (by omega) (by omega)⟩
theorem Only.has (h:Only g w w'){g':Nat}{t:TypeId}{cs:Array Value}(hh:Has w g' t cs)(hne:g'≠g):Has w' g' t cs:=⟨(h.block g' hh.lt hne).trans hh.eq⟩
theorem Only.of_below (h:Below w.heap.size w w')(g:Nat):Only g w w':=⟨h.os,h.tape,h.output,h.size,fun k hk _=>h.block k hk⟩
end
theorem word_prod {x y:Int}(hx0:0<=x)(hx1:x<=18446744073709551615)(hy0:0<=y)(hy1:y<=18446744073709551615):0<=x*y/\x*y<=0xfffffffffffffffe0000000000000001:=by
 refine⟨Int.mul_nonneg hx0 hy0,?_⟩
 have h1:x*y<=18446744073709551615*y:=Int.mul_le_mul_of_nonneg_right hx1 hy0
 omega
end Limb
end Go.Proofs.YtjamcbjghffboaaGreatDoor
