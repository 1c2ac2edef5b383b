/-
  Own text.
-/
import Derived.Test.YtjamcbjghffboaaGreatDoorS7
import Derived.Test.YtjamcbjghffboaaGreatDoorMLimbR
import Derived.Deep.LoopGhost
set_option linter.unusedVariables false
set_option linter.unusedSimpArgs false
set_option maxRecDepth 100000
namespace Go.Proofs.YtjamcbjghffboaaGreatDoor
namespace Fp2
open Go Go.RowKit Sx Reg Base Limb Fp
theorem qMulS (a:List Int)(ha:Nm 12 a)(b:List Int)(hb:Nm 12 b)(w:World)(hG:GlobD w):Calls Tryz.prog 47 #[.agg (vals .u64 a),.agg (vals .u64 b)] w fun e w'=>e=.returned (.agg (vals .u64 (F2 (gm (v2 a) (v2 b)))))/\Below w.heap.size w w':=S7.qMul.c2 ha hb w hG
theorem gp_twice (p:G)(q:Nat):gp p (q+q)=gm (gp p q) (gp p q):=gp_add p q q
theorem pow_step (p:G){v x b:Int}(hx:0<=x)(hb:b=0∨b=1)(hv:v=2*x+b):gp p v.toNat=if b=1 then gm (gm (gp p x.toNat) (gp p x.toNat)) p else gm (gp p x.toNat) (gp p x.toNat):=by
 rcases hb with rfl|rfl
 ·rw[if_neg (by decide),<-gp_twice]
  congr 1
  omega
 ·rw[if_pos rfl,<-gp_twice,<-show gp p (x.toNat+x.toNat+1)=gm (gp p (x.toNat+x.toNat)) p from rfl]
  congr 1
  omega
set_option maxHeartbeats 4000000 in
theorem refPowS (a:List Int)(ha:Nm 12 a)(A:Option Addr)(n c:Nat)(l:List Int)(B:Nat)(w:World)(hr:Rd w B A n .u64 l)(hwl:Words l)(hB:B<=w.heap.size)(hn:n<=10000)(hG:GlobD w):Calls Tryz.prog 45 #[.agg (vals .u64 a),.slice A n c] w fun e w'=>e=.returned (.agg (vals .u64 (F2 (gp (v2 a) (num l).toNat))))/\Below w.heap.size w w':=by
  have HW:Keep (Words l):=⟨hwl⟩
  have HL:Keep (num l<wp n):=⟨by have:=(num_bounds hwl).2;rwa [hr.len] at this⟩
  have HN:Keep (n<=10000):=⟨hn⟩
  have HE0:Keep ([1,0,0,0,0,0,0,0,0,0,0,0]=F2 (gp (v2 a) (num l/tp (64*n)).toNat)):=⟨by
    rw[tp_wp,Int.ediv_eq_zero_of_lt (num_bounds hwl).1 HL.out]
    show _=F2 (1,0)
    decide +kernel⟩
  have hn':n<=10000:=hn
  obtain⟨S,hS⟩:∃S,w.heap.size=S:=⟨_,rfl⟩
  have Lo:Keep (Z12.length=12):=⟨rfl⟩
  have qa0:Has ((w.alloc (.cells (vals .u64 a) 26)).alloc (.cells (vals .u64 Z12) 26)) (S) 26 (vals .u64 a):=((Has.new' _ hS.symm _ _).alloc _)
  have qo0:Has ((w.alloc (.cells (vals .u64 a) 26)).alloc (.cells (vals .u64 Z12) 26)) (S+1) 26 (vals .u64 Z12):=(Has.new' _ (by simp only[World.size_alloc,hS]) _ _)
  have hb0:Below S w ((w.alloc (.cells (vals .u64 a) 26)).alloc (.cells (vals .u64 Z12) 26)):=by rw[<-hS];exact (((Below.refl _ _).alloc (Nat.le_refl _) _).alloc (by simp<;>omega) _)
  have hsz0:((w.alloc (.cells (vals .u64 a) 26)).alloc (.cells (vals .u64 Z12) 26)).heap.size=S+2:=by simp only[World.size_alloc,hS]
  have HSS:Keep (∀x:World,Below S w x->S<=x.heap.size):=⟨fun x hb=>Nat.le_trans (by omega) hb.size⟩
  have HRD:Keep (∀x:World,Below S w x->Rd x S A n .u64 l):=⟨fun x hb=>(hr.keep hb (by omega)).more (by omega)⟩
  have HGD:Keep (∀x:World,RowKit.Below S w x->GlobD x):=⟨fun x hb=>hG.keep (by rw[hS];exact hb)⟩
  clear hr hwl hB hn hG
  rw[hS]
  go_enter Tryz.func45,Tryz.ntmps45
  go_wp2_with (first
    | (refine store_abs2 (by rfl) 26 (.tmp 5) (.tmp 8) (by rfl) (by rfl) (S+2) (vals .u64 [1,0,0,0,0,0,0,0,0,0,0,0]) (by rfl) (by rfl) 26 (vals .u64 Z12) (Has.new' _ (by simp only[World.size_alloc,hS]) _ _) (by kernel_rfl) (by rfl) vals_one ?_
       intro w1 qu1 hkeep hbg
       have hbe:=((Below.refl ((w.alloc (.cells (vals .u64 a) 26)).alloc (.cells (vals .u64 Z12) 26)).heap.size ((w.alloc (.cells (vals .u64 a) 26)).alloc (.cells (vals .u64 Z12) 26))).alloc (Nat.le_refl _) (.cells (vals .u64 Z12) 26)).trans (by rw[hsz0];exact hbg)
       have qa1:=qa0.keep hbe
       have qo1:=qo0.keep hbe
       have hb1:=hb0.trans (hbe.mono (by rw[hsz0];omega))
       clear hkeep hbg hbe hb0 qa0 qo0)
    | (refine wpList_buildTo (by rfl) 26 #[(0,.tmp 7)] (by rfl) (some 8) (by rfl) (vals .u64 [1,0,0,0,0,0,0,0,0,0,0,0]) (by kernel_rfl) ?_)
    | (refine wpList_buildTo (by rfl) 24 #[(0,.const (.int .u64 1))] (by rfl) (some 7) (by rfl) (vals .u64 [1,0,0,0,0,0]) (by kernel_rfl) ?_))
  rw[HE0.out] at qu1
  go_loopg [6] (64*n) (fun (gk:Nat) vi w10=>gk<=64*n/\vi=.int .i64 ((gk:Int)-1)/\Has w10 S 26 (vals .u64 a)/\Has w10 (S+1) 26 (vals .u64 Z12)/\Has w10 (S+2) 26 (vals .u64 (F2 (gp (v2 a) (num l/tp gk).toNat)))/\Below S w w10)
  case atStart=>exact⟨Nat.le_refl _,by go_num,qa1,qo1,qu1,hb1⟩
  case round=>
    clear qa1 qo1 qu1 hb1
    obtain⟨hk,rfl,qa10,qo10,qu10,hb10⟩:=hrel
    rcases gk with _|i
    · go_wp2_with (first
        | (refine store_abs2 (by rfl) 26 (.tmp 4) (.tmp 34) (by rfl) (by rfl) (S+1) (vals .u64 (F2 (gp (v2 a) (num l/tp 0).toNat))) (by rfl) (by rfl) 26 _ qo10 (by rw[vals_size,(Nm.F2 _).len];kernel_rfl) (by rw[vals_size,vals_size,(Nm.F2 _).len,Lo.out]) vals_one ?_
           intro w11 qo11 hkeep hbg
           have qa11:=hkeep _ _ _ qa10 (by omega)
           have qu11:=hkeep _ _ _ qu10 (by omega)
           have hb11:=hb10.trans (hbg.mono (by omega))
           clear hkeep hbg hb10 qa10 qo10 qu10)
        | (refine wpList_load_row rfl 26 (.tmp 5) rfl (S+2) rfl _ _ _ _ qu10.eq Tryz.underlying26 rfl (by rw[vals_size,(Nm.F2 _).len];kernel_rfl) ?_))
      refine bodyPost_ret (v:=.agg (vals .u64 _)) (results_cell_row rfl _ _ (S+1) _ _ _ _ rfl qo11.eq Tryz.underlying26 rfl (by rw[vals_size,(Nm.F2 _).len];kernel_rfl)) rfl ⟨ret_eq (congrArg (fun z=>Value.agg (vals .u64 z)) (by rw[tp_zero,Int.ediv_one])),hb11⟩
    · have e1:((i+1:Nat):Int)-1=(i:Int):=by omega
      rw[e1]
      clear e1
      obtain⟨yv,hyv⟩:∃v,nth l (i/64)=v:=⟨_,rfl⟩
      have by':0<=yv/\yv<=18446744073709551615:=hyv▸HW.out (i/64)
      have hyb:bitL l i=yv/2^(i%64)%2:=by rw[bitL,hyv];rfl
      have hsb:=shr_bounds by'.1 by'.2 (i%64)
      have hand:=and_one hsb.1 hsb.2
      have hsn:0<=num l/tp (i+1):=Int.ediv_nonneg (num_bounds HW.out).1 (Int.le_of_lt (tp_pos _))
      have hsh:=num_shift (num l) i
      rw[num_bit HW.out,hyb] at hsh
      obtain⟨b1,o1,rfl,hlb,hcc⟩:=(HRD.out _ hb10).at_ (by omega)
      have HC:Keep (∀x:World,Below S w x->x.cell? ⟨b1,o1+i/64,none⟩=some (.int .u64 yv)):=⟨fun x h=>(h.cell (p:=⟨b1,o1+i/64,none⟩) hlb).trans ((hb10.cell (p:=⟨b1,o1+i/64,none⟩) hlb).symm.trans (by rw[hcc _ (by omega),hyv]))⟩
      obtain⟨p,hp⟩:∃p,gp (v2 a) (num l/tp (i+1)).toNat=p:=⟨_,rfl⟩
      have hst:=pow_step (v2 a) hsn (show yv/2^(i%64)%2=0∨yv/2^(i%64)%2=1 by omega) hsh
      rw[hp] at qu10 hst
      rcases (show yv/2^(i%64)%2=0∨yv/2^(i%64)%2=1 by omega) with h3|h3
      · have hbit:(bits .and .u64 (yv/2^(i%64)) 1==1)=false:=by rw[hand,h3];rfl
        rw[h3,if_neg (by decide)] at hst
        have FIN:Keep ((F2 (gm (v2 (F2 p)) (v2 (F2 p))))=F2 (gp (v2 a) (num l/tp i).toNat)):=⟨by rw[hst];exact F2_eq (gm_congr (v2_F2 _) (v2_F2 _))⟩
        clear hyb hsb hand hsn hsh hst hp hyv hcc h3
        go_wp2_with (first
          | (refine store_abs2 (by rfl) 26 (.tmp 5) (.tmp 19) (by rfl) (by rfl) (S+2) (vals .u64 (F2 (gm (v2 (F2 p)) (v2 (F2 p))))) (by rfl) (by rfl) 26 _ qu11 (by rw[vals_size,(Nm.F2 _).len];kernel_rfl) (by rw[vals_size,vals_size,(Nm.F2 _).len,(Nm.F2 _).len]) vals_one ?_
             intro w12 qu12 hkeep hbg
             have qa12:=hkeep _ _ _ qa11 (by omega)
             have qo12:=hkeep _ _ _ qo11 (by omega)
             have hb12:=hb11.trans (hbg.mono (by omega))
             clear hkeep hbg hb11 qa11 qo11 qu11
             have hcell:=HC.out _ hb12)
          | (have hq0:=hb10
             clear hq0
             go_at_call 47
             refine (qMulS (F2 p) (.F2 _) (F2 p) (.F2 _) _ (HGD.out _ hb10)).mono ?_
             rintro e w11 ⟨rfl,hq⟩
             have qa11:=qa10.keep hq
             have qo11:=qo10.keep hq
             have qu11:=qu10.keep hq
             have hb11:=hb10.trans (hq.mono (HSS.out _ hb10))
             clear hq hb10 qa10 qo10 qu10)
          | (refine wpList_load_row rfl 26 (.tmp 5) rfl (S+2) rfl _ _ _ _ qu10.eq Tryz.underlying26 rfl (by rw[vals_size,(Nm.F2 _).len];kernel_rfl) ?_))
        rw[FIN.out] at qu12
        go_roundg i
        case measure=>omega
        case rel=>exact⟨by omega,rfl,qa12,qo12,qu12,hb12⟩
      · have hbit:(bits .and .u64 (yv/2^(i%64)) 1==1)=true:=by rw[hand,h3];rfl
        rw[h3,if_pos rfl] at hst
        have FIN:Keep (F2 (gm (v2 (F2 (gm (v2 (F2 p)) (v2 (F2 p))))) (v2 a))=F2 (gp (v2 a) (num l/tp i).toNat)):=⟨by rw[hst];exact F2_eq (gm_congr ((v2_F2 _).trans (gm_congr (v2_F2 _) (v2_F2 _))) E2.rfl)⟩
        clear hyb hsb hand hsn hsh hst hp hyv hcc h3
        go_wp2_with (first
          | (have q1:=f1
             refine store_abs2 (by rfl) 26 (.tmp 5) (.tmp 33) (by rfl) (by rfl) (S+2) (vals .u64 (F2 (gm (v2 (F2 (gm (v2 (F2 p)) (v2 (F2 p))))) (v2 a)))) (by rfl) (by rfl) 26 _ qu13 (by rw[vals_size,(Nm.F2 _).len];kernel_rfl) (by rw[vals_size,vals_size,(Nm.F2 _).len,(Nm.F2 _).len]) vals_one ?_
             intro w14 qu14 hkeep hbg
             have qa14:=hkeep _ _ _ qa13 (by omega)
             have qo14:=hkeep _ _ _ qo13 (by omega)
             have hb14:=hb13.trans (hbg.mono (by omega))
             clear hkeep hbg hb13 qa13 qo13 qu13)
          | (have q1:=f1
             have hq0:=hb12
             clear hq0
             go_at_call 47
             refine (qMulS (F2 (gm (v2 (F2 p)) (v2 (F2 p)))) (.F2 _) a ha _ (HGD.out _ hb12)).mono ?_
             rintro e w13 ⟨rfl,hq⟩
             have qa13:=qa12.keep hq
             have qo13:=qo12.keep hq
             have qu13:=qu12.keep hq
             have hb13:=hb12.trans (hq.mono (HSS.out _ hb12))
             clear hq hb12 qa12 qo12 qu12)
          | (have q1:=f1
             refine wpList_load_row rfl 26 (.tmp 2) rfl (S) rfl _ _ _ _ qa12.eq Tryz.underlying26 rfl (by rw[vals_size,ha.len];kernel_rfl) ?_)
          | (have q1:=f1
             refine wpList_load_row rfl 26 (.tmp 5) rfl (S+2) rfl _ _ _ _ qu12.eq Tryz.underlying26 rfl (by rw[vals_size,(Nm.F2 _).len];kernel_rfl) ?_)
          | (refine store_abs2 (by rfl) 26 (.tmp 5) (.tmp 19) (by rfl) (by rfl) (S+2) (vals .u64 (F2 (gm (v2 (F2 p)) (v2 (F2 p))))) (by rfl) (by rfl) 26 _ qu11 (by rw[vals_size,(Nm.F2 _).len];kernel_rfl) (by rw[vals_size,vals_size,(Nm.F2 _).len,(Nm.F2 _).len]) vals_one ?_
             intro w12 qu12 hkeep hbg
             have qa12:=hkeep _ _ _ qa11 (by omega)
             have qo12:=hkeep _ _ _ qo11 (by omega)
             have hb12:=hb11.trans (hbg.mono (by omega))
             clear hkeep hbg hb11 qa11 qo11 qu11
             have hcell:=HC.out _ hb12
             have f1:=True.intro)
          | (have hq0:=hb10
             clear hq0
             go_at_call 47
             refine (qMulS (F2 p) (.F2 _) (F2 p) (.F2 _) _ (HGD.out _ hb10)).mono ?_
             rintro e w11 ⟨rfl,hq⟩
             have qa11:=qa10.keep hq
             have qo11:=qo10.keep hq
             have qu11:=qu10.keep hq
             have hb11:=hb10.trans (hq.mono (HSS.out _ hb10))
             clear hq hb10 qa10 qo10 qu10)
          | (refine wpList_load_row rfl 26 (.tmp 5) rfl (S+2) rfl _ _ _ _ qu10.eq Tryz.underlying26 rfl (by rw[vals_size,(Nm.F2 _).len];kernel_rfl) ?_))
        rw[FIN.out] at qu14
        go_roundg i
        case measure=>omega
        case rel=>exact⟨by omega,rfl,qa14,qo14,qu14,hb14⟩
end Fp2
end Go.Proofs.YtjamcbjghffboaaGreatDoor
