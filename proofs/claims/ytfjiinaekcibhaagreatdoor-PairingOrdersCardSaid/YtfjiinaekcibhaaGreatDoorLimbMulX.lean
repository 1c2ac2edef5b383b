/-
  Own text.
-/
import Derived.Test.YtfjiinaekcibhaaGreatDoorLimbOwnE
namespace Go.Proofs.YtfjiinaekcibhaaGreatDoor
namespace Limb
open Go Go.RowKit Reg Base Bits
set_option maxRecDepth 100000 in
set_option maxHeartbeats 2000000 in
theorem mul_x (A:Option Addr)(n c:Nat)(a:List Int)(A':Option Addr)(n' c':Nat)(b:List Int)(B:Nat)(w:World)(hr:Rd w B A n .u64 a)(hwa:Words a)(hr':Rd w B A' n' .u64 b)(hwb:Words b)(hB:B≤w.heap.size)(hn:n≤10000)(hn':n'≤10000) :
    Calls Tryz.prog 20 #[.slice A n c,.slice A' n' c'] w fun e w'=>e=.returned (.slice (some ⟨w.heap.size,0,none⟩) (n+n') (n+n'))∧Has w' w.heap.size 26 (vals .u64 (wd (n+n') (num a*num b)))∧Below w.heap.size w w':=by
  have LN:Keep _:=⟨hr.len⟩
  have LN':Keep _:=⟨hr'.len⟩
  have WA:Keep _:=⟨hwa⟩
  have WB:Keep _:=⟨hwb⟩
  obtain⟨L,hL⟩:∃L,n+n'=L:=⟨_,rfl⟩
  have HL:Keep _:=⟨hL⟩
  have hLi:(n:Int)+(n':Int)=(L:Int):=by omega
  have hLb:L≤20000:=by omega
  have hmk:∀w,(Instr.makeSlice 47 (.int .i64 L) (.int .i64 L)).run Tryz.prog w=.ok (.slice (some ⟨w.heap.size,0,none⟩) L L) (w.alloc (.cells (vals .u64 (List.replicate L 0)) 26)):=fun w=>run_make_vals w _ _ .u64 Tryz.underlying47 u64Elem .i64 .i64 L (by omega) (by omega)
  rw[hL]
  have HB0:List.replicate L 0=wd L (low a 0*num b):=by
    have h0:=wd_num (n:=L) (words_zeros L) (by simp)
    rw[num_zeros] at h0
    rw[low_zero,Int.zero_mul]
    exact h0.symm
  clear hwa hwb hL
  obtain⟨S,hS⟩:∃S,w.heap.size=S:=⟨_,rfl⟩
  have hb0:Below S w (w.alloc (.cells (vals .u64 (List.replicate L 0)) 26)):=(Below.refl _ _).alloc (by omega) _
  have hD0:Has (w.alloc (.cells (vals .u64 (List.replicate L 0)) 26)) S 26 (vals .u64 (wd L (low a 0*num b))):=by rw[←HB0];exact Has.new' _ hS.symm _ _
  clear HB0
  have HS:Keep _:=⟨hS⟩
  rw[hS] at hB
  go_enter Tryz.func20,Tryz.ntmps20
  go_wp2
  go_loopw [16] (fun vi wr=>∃k:Nat,k≤n∧vi=.int .i64 k∧Has wr S 26 (vals .u64 (wd L (low a k*num b)))∧Below S w wr) (fun vi _=>n-(intOf vi).toNat)
  case atStart=>exact⟨0,Nat.zero_le _,rfl,hD0,hb0⟩
  case round=>
    clear hD0 hb0 hmk
    obtain⟨k,hk,rfl,hD,hb⟩:=hrel
    by_cases hlt:k<n
    · obtain⟨b1,o1,rfl,hlb1,hcs1⟩:=hr.at_ (by omega)
      obtain⟨x,hx⟩:∃x,nth a k=x:=⟨_,rfl⟩
      have bx:0≤x∧x≤18446744073709551615:=hx▸WA.out k
      have hrb:=hr'.keep hb hB
      have ca:wr.cell? ⟨b1,o1+k,none⟩=some (.int .u64 x):=(hb.cell (p:=⟨b1,o1+k,none⟩) (by show b1<S;omega)).trans (by rw[hcs1 k hlt,hx])
      have HX:Keep _:=⟨hx⟩
      obtain⟨l,hl⟩:∃l,wd L (low a k*num b)=l:=⟨_,rfl⟩
      have HLL:Keep (l=wd (n+n') (low a k*num b)):=⟨by rw[←hl,HL.out]⟩
      have WL:Keep (Words l∧l.length=L):=⟨by rw[←hl];exact⟨wd_words _ _,wd_len _ _⟩⟩
      rw[hl] at hD
      clear hx hcs1 hl
      go_wp2_with (go_at_call 43
                   refine (addTimes_c S k n' _ (some ⟨S,k,none⟩) l A' c' b x B wr hD WL.out.1 (by have:=WL.out.2;omega) (fun _=>rfl) hrb WB.out hB bx.1 bx.2 hn').mono ?_
                   rintro e w2 ⟨cy,o,rfl,hc0,hc1,hD2,hwo,hlo,hE,hon⟩
                   have hbb2:=hb.trans (hon.below (Nat.le_refl S) (by have:=hb.size;have:=HS.out;omega))
                   have HE:Keep _:=⟨hE⟩
                   have HO:Keep (Words o∧o.length=n'):=⟨hwo,hlo⟩
                   have hkl:k+n'<L:=by have:=HL.out;omega
                   have c0:=hD2.val (i:=k+n') (by rw[mid_len hlo (by have:=WL.out.2;omega)];have:=WL.out.2;omega)
                   have z0:=hD2.frozen (k+n')
                   clear hD hE hb hon hrb hwo hlo)
      have h4:=hD2.set_ (k+n') (.int .u64 cy)
      rw[vals_set,row_step WA.out WB.out LN.out LN'.out hlt HLL.out HO.out.1 HO.out.2 hc0 hc1 (by rw[HX.out];exact HE.out),HL.out] at h4
      have hb4:=hbb2.setCell (p:=⟨S,k+n',none⟩) (Nat.le_refl _) (.int .u64 cy)
      first
        | exact⟨⟨k+1,by omega,by go_num,h4,hb4⟩,by simp[intOf];omega⟩
        | (go_roundw
           case rel=>exact⟨k+1,by omega,by go_num,h4,hb4⟩
           case measure=>simp[intOf];omega)
    · obtain rfl:k=n:=by omega
      rw[show low a k=num a by rw[←LN.out];rfl] at hD
      go_wp2
      go_ret
      refine⟨?_,by rw[HS.out];exact hD,by rw[HS.out];exact hb⟩
      rw[HS.out]
      rfl
end Limb
end Go.Proofs.YtfjiinaekcibhaaGreatDoor
