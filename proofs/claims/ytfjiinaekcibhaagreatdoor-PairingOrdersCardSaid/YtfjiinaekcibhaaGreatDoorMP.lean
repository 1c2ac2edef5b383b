/-
  Own text.
-/
import Derived.Test.YtfjiinaekcibhaaGreatDoorMEc
import Derived.Test.YtfjiinaekcibhaaGreatDoorMOrd
set_option linter.unusedVariables false
set_option linter.unusedSectionVars false
namespace Go.Proofs.YtfjiinaekcibhaaGreatDoor
namespace Ec
set_option maxRecDepth 100000
open Go Ring
section
variable {α:Type} (F:Fd α)
theorem vt_2 {x1 y1 x2 y2 x3 l c:α}(cc:F.Z (F.sub (F.mul l (F.add y1 y2)) (F.add (F.add (F.mul x1 x1) (F.mul x1 x2)) (F.mul x2 x2))))(c3:F.Z (F.sub (F.sub y1 y2) (F.mul l (F.sub x1 x2))))(hx:F.Z (F.sub x3 (F.sub (F.sub (F.mul l l) x1) x2)))(hc:F.Z (F.sub c (F.sub y1 (F.mul l x1)))):F.Z (F.add (F.add (F.add (F.mul x1 x2) (F.mul x1 x3)) (F.mul x2 x3)) (F.mul (F.int 2) (F.mul l c))):=by
 have e:(F.add (F.add (F.add (F.mul x1 x2) (F.mul x1 x3)) (F.mul x2 x3)) (F.mul (F.int 2) (F.mul l c)))=(F.add (F.add (F.add (F.mul (F.int 1) (F.sub (F.mul l (F.add y1 y2)) (F.add (F.add (F.mul x1 x1) (F.mul x1 x2)) (F.mul x2 x2)))) (F.mul l (F.sub (F.sub y1 y2) (F.mul l (F.sub x1 x2))))) (F.mul (F.add x1 x2) (F.sub x3 (F.sub (F.sub (F.mul l l) x1) x2)))) (F.mul (F.mul (F.int 2) l) (F.sub c (F.sub y1 (F.mul l x1))))):=F.eq_of (fun k_=>match k_ with|0=>x1|1=>y1|2=>x2|3=>y2|4=>x3|5=>x1|6=>l|7=>x1|8=>x1|9=>x1|10=>x1|11=>x1|12=>x1|13=>x1|14=>x1|15=>x1|16=>x1|17=>c|18=>x1|19=>x1|20=>x1|21=>x1|22=>x1|23=>x1|_=>x1) (e:=(.a (.a (.a (.m (.v 0) (.v 2)) (.m (.v 0) (.v 4))) (.m (.v 2) (.v 4))) (.m (.n 2) (.m (.v 6) (.v 17))))) (f:=(.a (.a (.a (.m (.n 1) (.s (.m (.v 6) (.a (.v 1) (.v 3))) (.a (.a (.m (.v 0) (.v 0)) (.m (.v 0) (.v 2))) (.m (.v 2) (.v 2))))) (.m (.v 6) (.s (.s (.v 1) (.v 3)) (.m (.v 6) (.s (.v 0) (.v 2)))))) (.m (.a (.v 0) (.v 2)) (.s (.v 4) (.s (.s (.m (.v 6) (.v 6)) (.v 0)) (.v 2))))) (.m (.m (.n 2) (.v 6)) (.s (.v 17) (.s (.v 1) (.m (.v 6) (.v 0))))))) rfl rfl (by decide +kernel)
 rw[e]
 exact (F.za (F.za (F.za (F.zm' _ cc) (F.zm' _ c3)) (F.zm' _ hx)) (F.zm' _ hc))
theorem vt_3 {x1 y1 x2 x3 l b c:α}(w2:F.Z (F.add (F.add (F.add (F.mul x1 x2) (F.mul x1 x3)) (F.mul x2 x3)) (F.mul (F.int 2) (F.mul l c))))(hx:F.Z (F.sub x3 (F.sub (F.sub (F.mul l l) x1) x2)))(hc:F.Z (F.sub c (F.sub y1 (F.mul l x1))))(h1:F.Z (F.sub (F.mul y1 y1) (F.add (F.mul (F.mul x1 x1) x1) b))):F.Z (F.sub (F.mul (F.mul x1 x2) x3) (F.sub (F.mul c c) b)):=by
 have e:(F.sub (F.mul (F.mul x1 x2) x3) (F.sub (F.mul c c) b))=(F.add (F.add (F.add (F.mul x1 (F.add (F.add (F.add (F.mul x1 x2) (F.mul x1 x3)) (F.mul x2 x3)) (F.mul (F.int 2) (F.mul l c)))) (F.mul (F.mul (F.int (-1)) (F.mul x1 x1)) (F.sub x3 (F.sub (F.sub (F.mul l l) x1) x2)))) (F.mul (F.add (F.add (F.mul (F.int (-1)) c) (F.mul (F.int (-1)) y1)) (F.mul (F.mul (F.int (-1)) l) x1)) (F.sub c (F.sub y1 (F.mul l x1))))) (F.mul (F.int (-1)) (F.sub (F.mul y1 y1) (F.add (F.mul (F.mul x1 x1) x1) b)))):=F.eq_of (fun k_=>match k_ with|0=>x1|1=>y1|2=>x2|3=>x1|4=>x3|5=>x1|6=>l|7=>x1|8=>x1|9=>x1|10=>x1|11=>x1|12=>x1|13=>x1|14=>x1|15=>x1|16=>b|17=>c|18=>x1|19=>x1|20=>x1|21=>x1|22=>x1|23=>x1|_=>x1) (e:=(.s (.m (.m (.v 0) (.v 2)) (.v 4)) (.s (.m (.v 17) (.v 17)) (.v 16)))) (f:=(.a (.a (.a (.m (.v 0) (.a (.a (.a (.m (.v 0) (.v 2)) (.m (.v 0) (.v 4))) (.m (.v 2) (.v 4))) (.m (.n 2) (.m (.v 6) (.v 17))))) (.m (.m (.n (-1)) (.m (.v 0) (.v 0))) (.s (.v 4) (.s (.s (.m (.v 6) (.v 6)) (.v 0)) (.v 2))))) (.m (.a (.a (.m (.n (-1)) (.v 17)) (.m (.n (-1)) (.v 1))) (.m (.m (.n (-1)) (.v 6)) (.v 0))) (.s (.v 17) (.s (.v 1) (.m (.v 6) (.v 0)))))) (.m (.n (-1)) (.s (.m (.v 1) (.v 1)) (.a (.m (.m (.v 0) (.v 0)) (.v 0)) (.v 16)))))) rfl rfl (by decide +kernel)
 rw[e]
 exact (F.za (F.za (F.za (F.zm' _ w2) (F.zm' _ hx)) (F.zm' _ hc)) (F.zm' _ h1))
theorem ln_norm {x1 x2 x3 l X Y b c:α}(hX:F.Z (F.sub (F.mul Y Y) (F.add (F.mul (F.mul X X) X) b)))(e1:F.Z (F.sub (F.add (F.add x1 x2) x3) (F.mul l l)))(w2:F.Z (F.add (F.add (F.add (F.mul x1 x2) (F.mul x1 x3)) (F.mul x2 x3)) (F.mul (F.int 2) (F.mul l c))))(w3:F.Z (F.sub (F.mul (F.mul x1 x2) x3) (F.sub (F.mul c c) b))):F.Z (F.add (F.mul (F.sub Y (F.add (F.mul l X) c)) (F.sub (F.sub (F.int 0) Y) (F.add (F.mul l X) c))) (F.mul (F.mul (F.sub X x1) (F.sub X x2)) (F.sub X x3))):=by
 have e:(F.add (F.mul (F.sub Y (F.add (F.mul l X) c)) (F.sub (F.sub (F.int 0) Y) (F.add (F.mul l X) c))) (F.mul (F.mul (F.sub X x1) (F.sub X x2)) (F.sub X x3)))=(F.add (F.add (F.add (F.mul (F.int (-1)) (F.sub (F.mul Y Y) (F.add (F.mul (F.mul X X) X) b))) (F.mul (F.mul (F.int (-1)) (F.mul X X)) (F.sub (F.add (F.add x1 x2) x3) (F.mul l l)))) (F.mul X (F.add (F.add (F.add (F.mul x1 x2) (F.mul x1 x3)) (F.mul x2 x3)) (F.mul (F.int 2) (F.mul l c))))) (F.mul (F.int (-1)) (F.sub (F.mul (F.mul x1 x2) x3) (F.sub (F.mul c c) b)))):=F.eq_of (fun k_=>match k_ with|0=>x1|1=>x1|2=>x2|3=>x1|4=>x3|5=>x1|6=>l|7=>x1|8=>x1|9=>x1|10=>x1|11=>x1|12=>x1|13=>x1|14=>X|15=>Y|16=>b|17=>c|18=>x1|19=>x1|20=>x1|21=>x1|22=>x1|23=>x1|_=>x1) (e:=(.a (.m (.s (.v 15) (.a (.m (.v 6) (.v 14)) (.v 17))) (.s (.s (.n 0) (.v 15)) (.a (.m (.v 6) (.v 14)) (.v 17)))) (.m (.m (.s (.v 14) (.v 0)) (.s (.v 14) (.v 2))) (.s (.v 14) (.v 4))))) (f:=(.a (.a (.a (.m (.n (-1)) (.s (.m (.v 15) (.v 15)) (.a (.m (.m (.v 14) (.v 14)) (.v 14)) (.v 16)))) (.m (.m (.n (-1)) (.m (.v 14) (.v 14))) (.s (.a (.a (.v 0) (.v 2)) (.v 4)) (.m (.v 6) (.v 6))))) (.m (.v 14) (.a (.a (.a (.m (.v 0) (.v 2)) (.m (.v 0) (.v 4))) (.m (.v 2) (.v 4))) (.m (.n 2) (.m (.v 6) (.v 17)))))) (.m (.n (-1)) (.s (.m (.m (.v 0) (.v 2)) (.v 4)) (.s (.m (.v 17) (.v 17)) (.v 16)))))) rfl rfl (by decide +kernel)
 rw[e]
 exact (F.za (F.za (F.za (F.zm' _ hX) (F.zm' _ e1)) (F.zm' _ w2)) (F.zm' _ w3))
theorem ln_rec {x1 y1 x2 y2 x3 y3 l m b c d u1 v1 u2 v2 u3 v3:α}(b1:F.Z (F.sub v1 (F.add (F.mul m u1) d)))(b2:F.Z (F.sub v2 (F.add (F.mul m u2) d)))(b3:F.Z (F.sub v3 (F.add (F.mul m u3) d)))(a1:F.Z (F.sub y1 (F.add (F.mul l x1) c)))(a2:F.Z (F.sub y2 (F.add (F.mul l x2) c)))(a3:F.Z (F.sub y3 (F.add (F.mul l x3) c)))(f1:F.Z (F.sub (F.add (F.add u1 u2) u3) (F.mul m m)))(f2:F.Z (F.add (F.add (F.add (F.mul u1 u2) (F.mul u1 u3)) (F.mul u2 u3)) (F.mul (F.int 2) (F.mul m d))))(f3:F.Z (F.sub (F.mul (F.mul u1 u2) u3) (F.sub (F.mul d d) b)))(e1:F.Z (F.sub (F.add (F.add x1 x2) x3) (F.mul l l)))(w2:F.Z (F.add (F.add (F.add (F.mul x1 x2) (F.mul x1 x3)) (F.mul x2 x3)) (F.mul (F.int 2) (F.mul l c))))(w3:F.Z (F.sub (F.mul (F.mul x1 x2) x3) (F.sub (F.mul c c) b))):F.Z (F.add (F.mul (F.mul (F.sub v1 (F.add (F.mul l u1) c)) (F.sub v2 (F.add (F.mul l u2) c))) (F.sub v3 (F.add (F.mul l u3) c))) (F.mul (F.mul (F.sub y1 (F.add (F.mul m x1) d)) (F.sub y2 (F.add (F.mul m x2) d))) (F.sub y3 (F.add (F.mul m x3) d)))):=by
 have e:(F.add (F.mul (F.mul (F.sub v1 (F.add (F.mul l u1) c)) (F.sub v2 (F.add (F.mul l u2) c))) (F.sub v3 (F.add (F.mul l u3) c))) (F.mul (F.mul (F.sub y1 (F.add (F.mul m x1) d)) (F.sub y2 (F.add (F.mul m x2) d))) (F.sub y3 (F.add (F.mul m x3) d))))=(F.add (F.add (F.add (F.add (F.add (F.add (F.add (F.add (F.add (F.add (F.add (F.mul (F.add (F.add (F.add (F.add (F.add (F.add (F.add (F.add (F.mul c c) (F.mul v2 v3)) (F.mul (F.mul (F.int (-1)) c) v2)) (F.mul (F.mul (F.int (-1)) c) v3)) (F.mul (F.mul c l) u2)) (F.mul (F.mul c l) u3)) (F.mul (F.mul u2 u3) (F.mul l l))) (F.mul (F.mul (F.mul (F.int (-1)) l) u2) v3)) (F.mul (F.mul (F.mul (F.int (-1)) l) u3) v2)) (F.sub v1 (F.add (F.mul m u1) d))) (F.mul (F.add (F.add (F.add (F.add (F.add (F.add (F.add (F.add (F.add (F.add (F.add (F.mul c c) (F.mul d v3)) (F.mul (F.mul (F.int (-1)) c) d)) (F.mul (F.mul (F.int (-1)) c) v3)) (F.mul (F.mul c l) u1)) (F.mul (F.mul c l) u3)) (F.mul (F.mul m u1) v3)) (F.mul (F.mul u1 u3) (F.mul l l))) (F.mul (F.mul (F.mul (F.int (-1)) c) m) u1)) (F.mul (F.mul (F.mul (F.int (-1)) d) l) u3)) (F.mul (F.mul (F.mul (F.int (-1)) l) u1) v3)) (F.mul (F.mul (F.mul (F.mul (F.int (-1)) l) m) u1) u3)) (F.sub v2 (F.add (F.mul m u2) d)))) (F.mul (F.add (F.add (F.add (F.add (F.add (F.add (F.add (F.add (F.add (F.add (F.add (F.add (F.add (F.mul c c) (F.mul d d)) (F.mul (F.mul (F.int (-2)) c) d)) (F.mul (F.mul c l) u1)) (F.mul (F.mul c l) u2)) (F.mul (F.mul d m) u1)) (F.mul (F.mul d m) u2)) (F.mul (F.mul u1 u2) (F.mul l l))) (F.mul (F.mul u1 u2) (F.mul m m))) (F.mul (F.mul (F.mul (F.int (-1)) c) m) u1)) (F.mul (F.mul (F.mul (F.int (-1)) c) m) u2)) (F.mul (F.mul (F.mul (F.int (-1)) d) l) u1)) (F.mul (F.mul (F.mul (F.int (-1)) d) l) u2)) (F.mul (F.mul (F.mul (F.mul (F.int (-2)) l) m) u1) u2)) (F.sub v3 (F.add (F.mul m u3) d)))) (F.mul (F.add (F.add (F.add (F.add (F.add (F.add (F.add (F.add (F.mul d d) (F.mul y2 y3)) (F.mul (F.mul (F.int (-1)) d) y2)) (F.mul (F.mul (F.int (-1)) d) y3)) (F.mul (F.mul d m) x2)) (F.mul (F.mul d m) x3)) (F.mul (F.mul x2 x3) (F.mul m m))) (F.mul (F.mul (F.mul (F.int (-1)) m) x2) y3)) (F.mul (F.mul (F.mul (F.int (-1)) m) x3) y2)) (F.sub y1 (F.add (F.mul l x1) c)))) (F.mul (F.add (F.add (F.add (F.add (F.add (F.add (F.add (F.add (F.add (F.add (F.add (F.mul d d) (F.mul c y3)) (F.mul (F.mul (F.int (-1)) c) d)) (F.mul (F.mul (F.int (-1)) d) y3)) (F.mul (F.mul d m) x1)) (F.mul (F.mul d m) x3)) (F.mul (F.mul l x1) y3)) (F.mul (F.mul x1 x3) (F.mul m m))) (F.mul (F.mul (F.mul (F.int (-1)) c) m) x3)) (F.mul (F.mul (F.mul (F.int (-1)) d) l) x1)) (F.mul (F.mul (F.mul (F.int (-1)) m) x1) y3)) (F.mul (F.mul (F.mul (F.mul (F.int (-1)) l) m) x1) x3)) (F.sub y2 (F.add (F.mul l x2) c)))) (F.mul (F.add (F.add (F.add (F.add (F.add (F.add (F.add (F.add (F.add (F.add (F.add (F.add (F.add (F.mul c c) (F.mul d d)) (F.mul (F.mul (F.int (-2)) c) d)) (F.mul (F.mul c l) x1)) (F.mul (F.mul c l) x2)) (F.mul (F.mul d m) x1)) (F.mul (F.mul d m) x2)) (F.mul (F.mul x1 x2) (F.mul l l))) (F.mul (F.mul x1 x2) (F.mul m m))) (F.mul (F.mul (F.mul (F.int (-1)) c) m) x1)) (F.mul (F.mul (F.mul (F.int (-1)) c) m) x2)) (F.mul (F.mul (F.mul (F.int (-1)) d) l) x1)) (F.mul (F.mul (F.mul (F.int (-1)) d) l) x2)) (F.mul (F.mul (F.mul (F.mul (F.int (-2)) l) m) x1) x2)) (F.sub y3 (F.add (F.mul l x3) c)))) (F.mul (F.add (F.add (F.add (F.add (F.add (F.mul m (F.mul c c)) (F.mul m (F.mul d d))) (F.mul (F.mul (F.int (-1)) l) (F.mul c c))) (F.mul (F.mul (F.int (-1)) l) (F.mul d d))) (F.mul (F.mul (F.mul (F.int (-2)) c) d) m)) (F.mul (F.mul (F.mul (F.int 2) c) d) l)) (F.sub (F.add (F.add u1 u2) u3) (F.mul m m)))) (F.mul (F.add (F.add (F.add (F.add (F.add (F.mul d (F.mul l l)) (F.mul d (F.mul m m))) (F.mul (F.mul (F.int (-1)) c) (F.mul l l))) (F.mul (F.mul (F.int (-1)) c) (F.mul m m))) (F.mul (F.mul (F.mul (F.int (-2)) d) l) m)) (F.mul (F.mul (F.mul (F.int 2) c) l) m)) (F.add (F.add (F.add (F.mul u1 u2) (F.mul u1 u3)) (F.mul u2 u3)) (F.mul (F.int 2) (F.mul m d))))) (F.mul (F.add (F.add (F.add (F.mul (F.mul m m) m) (F.mul (F.int (-1)) (F.mul (F.mul l l) l))) (F.mul (F.mul (F.int (-3)) l) (F.mul m m))) (F.mul (F.mul (F.int 3) m) (F.mul l l))) (F.sub (F.mul (F.mul u1 u2) u3) (F.sub (F.mul d d) b)))) (F.mul (F.add (F.add (F.add (F.add (F.add (F.mul l (F.mul c c)) (F.mul l (F.mul d d))) (F.mul (F.mul (F.int (-1)) m) (F.mul c c))) (F.mul (F.mul (F.int (-1)) m) (F.mul d d))) (F.mul (F.mul (F.mul (F.int (-2)) c) d) l)) (F.mul (F.mul (F.mul (F.int 2) c) d) m)) (F.sub (F.add (F.add x1 x2) x3) (F.mul l l)))) (F.mul (F.add (F.add (F.add (F.add (F.add (F.mul c (F.mul l l)) (F.mul c (F.mul m m))) (F.mul (F.mul (F.int (-1)) d) (F.mul l l))) (F.mul (F.mul (F.int (-1)) d) (F.mul m m))) (F.mul (F.mul (F.mul (F.int (-2)) c) l) m)) (F.mul (F.mul (F.mul (F.int 2) d) l) m)) (F.add (F.add (F.add (F.mul x1 x2) (F.mul x1 x3)) (F.mul x2 x3)) (F.mul (F.int 2) (F.mul l c))))) (F.mul (F.add (F.add (F.add (F.mul (F.mul l l) l) (F.mul (F.int (-1)) (F.mul (F.mul m m) m))) (F.mul (F.mul (F.int (-3)) m) (F.mul l l))) (F.mul (F.mul (F.int 3) l) (F.mul m m))) (F.sub (F.mul (F.mul x1 x2) x3) (F.sub (F.mul c c) b)))):=F.eq_of (fun k_=>match k_ with|0=>x1|1=>y1|2=>x2|3=>y2|4=>x3|5=>y3|6=>l|7=>m|8=>x1|9=>x1|10=>x1|11=>x1|12=>x1|13=>x1|14=>x1|15=>x1|16=>b|17=>c|18=>d|19=>u1|20=>v1|21=>u2|22=>v2|23=>u3|_=>v3) (e:=(.a (.m (.m (.s (.v 20) (.a (.m (.v 6) (.v 19)) (.v 17))) (.s (.v 22) (.a (.m (.v 6) (.v 21)) (.v 17)))) (.s (.v 24) (.a (.m (.v 6) (.v 23)) (.v 17)))) (.m (.m (.s (.v 1) (.a (.m (.v 7) (.v 0)) (.v 18))) (.s (.v 3) (.a (.m (.v 7) (.v 2)) (.v 18)))) (.s (.v 5) (.a (.m (.v 7) (.v 4)) (.v 18)))))) (f:=(.a (.a (.a (.a (.a (.a (.a (.a (.a (.a (.a (.m (.a (.a (.a (.a (.a (.a (.a (.a (.m (.v 17) (.v 17)) (.m (.v 22) (.v 24))) (.m (.m (.n (-1)) (.v 17)) (.v 22))) (.m (.m (.n (-1)) (.v 17)) (.v 24))) (.m (.m (.v 17) (.v 6)) (.v 21))) (.m (.m (.v 17) (.v 6)) (.v 23))) (.m (.m (.v 21) (.v 23)) (.m (.v 6) (.v 6)))) (.m (.m (.m (.n (-1)) (.v 6)) (.v 21)) (.v 24))) (.m (.m (.m (.n (-1)) (.v 6)) (.v 23)) (.v 22))) (.s (.v 20) (.a (.m (.v 7) (.v 19)) (.v 18)))) (.m (.a (.a (.a (.a (.a (.a (.a (.a (.a (.a (.a (.m (.v 17) (.v 17)) (.m (.v 18) (.v 24))) (.m (.m (.n (-1)) (.v 17)) (.v 18))) (.m (.m (.n (-1)) (.v 17)) (.v 24))) (.m (.m (.v 17) (.v 6)) (.v 19))) (.m (.m (.v 17) (.v 6)) (.v 23))) (.m (.m (.v 7) (.v 19)) (.v 24))) (.m (.m (.v 19) (.v 23)) (.m (.v 6) (.v 6)))) (.m (.m (.m (.n (-1)) (.v 17)) (.v 7)) (.v 19))) (.m (.m (.m (.n (-1)) (.v 18)) (.v 6)) (.v 23))) (.m (.m (.m (.n (-1)) (.v 6)) (.v 19)) (.v 24))) (.m (.m (.m (.m (.n (-1)) (.v 6)) (.v 7)) (.v 19)) (.v 23))) (.s (.v 22) (.a (.m (.v 7) (.v 21)) (.v 18))))) (.m (.a (.a (.a (.a (.a (.a (.a (.a (.a (.a (.a (.a (.a (.m (.v 17) (.v 17)) (.m (.v 18) (.v 18))) (.m (.m (.n (-2)) (.v 17)) (.v 18))) (.m (.m (.v 17) (.v 6)) (.v 19))) (.m (.m (.v 17) (.v 6)) (.v 21))) (.m (.m (.v 18) (.v 7)) (.v 19))) (.m (.m (.v 18) (.v 7)) (.v 21))) (.m (.m (.v 19) (.v 21)) (.m (.v 6) (.v 6)))) (.m (.m (.v 19) (.v 21)) (.m (.v 7) (.v 7)))) (.m (.m (.m (.n (-1)) (.v 17)) (.v 7)) (.v 19))) (.m (.m (.m (.n (-1)) (.v 17)) (.v 7)) (.v 21))) (.m (.m (.m (.n (-1)) (.v 18)) (.v 6)) (.v 19))) (.m (.m (.m (.n (-1)) (.v 18)) (.v 6)) (.v 21))) (.m (.m (.m (.m (.n (-2)) (.v 6)) (.v 7)) (.v 19)) (.v 21))) (.s (.v 24) (.a (.m (.v 7) (.v 23)) (.v 18))))) (.m (.a (.a (.a (.a (.a (.a (.a (.a (.m (.v 18) (.v 18)) (.m (.v 3) (.v 5))) (.m (.m (.n (-1)) (.v 18)) (.v 3))) (.m (.m (.n (-1)) (.v 18)) (.v 5))) (.m (.m (.v 18) (.v 7)) (.v 2))) (.m (.m (.v 18) (.v 7)) (.v 4))) (.m (.m (.v 2) (.v 4)) (.m (.v 7) (.v 7)))) (.m (.m (.m (.n (-1)) (.v 7)) (.v 2)) (.v 5))) (.m (.m (.m (.n (-1)) (.v 7)) (.v 4)) (.v 3))) (.s (.v 1) (.a (.m (.v 6) (.v 0)) (.v 17))))) (.m (.a (.a (.a (.a (.a (.a (.a (.a (.a (.a (.a (.m (.v 18) (.v 18)) (.m (.v 17) (.v 5))) (.m (.m (.n (-1)) (.v 17)) (.v 18))) (.m (.m (.n (-1)) (.v 18)) (.v 5))) (.m (.m (.v 18) (.v 7)) (.v 0))) (.m (.m (.v 18) (.v 7)) (.v 4))) (.m (.m (.v 6) (.v 0)) (.v 5))) (.m (.m (.v 0) (.v 4)) (.m (.v 7) (.v 7)))) (.m (.m (.m (.n (-1)) (.v 17)) (.v 7)) (.v 4))) (.m (.m (.m (.n (-1)) (.v 18)) (.v 6)) (.v 0))) (.m (.m (.m (.n (-1)) (.v 7)) (.v 0)) (.v 5))) (.m (.m (.m (.m (.n (-1)) (.v 6)) (.v 7)) (.v 0)) (.v 4))) (.s (.v 3) (.a (.m (.v 6) (.v 2)) (.v 17))))) (.m (.a (.a (.a (.a (.a (.a (.a (.a (.a (.a (.a (.a (.a (.m (.v 17) (.v 17)) (.m (.v 18) (.v 18))) (.m (.m (.n (-2)) (.v 17)) (.v 18))) (.m (.m (.v 17) (.v 6)) (.v 0))) (.m (.m (.v 17) (.v 6)) (.v 2))) (.m (.m (.v 18) (.v 7)) (.v 0))) (.m (.m (.v 18) (.v 7)) (.v 2))) (.m (.m (.v 0) (.v 2)) (.m (.v 6) (.v 6)))) (.m (.m (.v 0) (.v 2)) (.m (.v 7) (.v 7)))) (.m (.m (.m (.n (-1)) (.v 17)) (.v 7)) (.v 0))) (.m (.m (.m (.n (-1)) (.v 17)) (.v 7)) (.v 2))) (.m (.m (.m (.n (-1)) (.v 18)) (.v 6)) (.v 0))) (.m (.m (.m (.n (-1)) (.v 18)) (.v 6)) (.v 2))) (.m (.m (.m (.m (.n (-2)) (.v 6)) (.v 7)) (.v 0)) (.v 2))) (.s (.v 5) (.a (.m (.v 6) (.v 4)) (.v 17))))) (.m (.a (.a (.a (.a (.a (.m (.v 7) (.m (.v 17) (.v 17))) (.m (.v 7) (.m (.v 18) (.v 18)))) (.m (.m (.n (-1)) (.v 6)) (.m (.v 17) (.v 17)))) (.m (.m (.n (-1)) (.v 6)) (.m (.v 18) (.v 18)))) (.m (.m (.m (.n (-2)) (.v 17)) (.v 18)) (.v 7))) (.m (.m (.m (.n 2) (.v 17)) (.v 18)) (.v 6))) (.s (.a (.a (.v 19) (.v 21)) (.v 23)) (.m (.v 7) (.v 7))))) (.m (.a (.a (.a (.a (.a (.m (.v 18) (.m (.v 6) (.v 6))) (.m (.v 18) (.m (.v 7) (.v 7)))) (.m (.m (.n (-1)) (.v 17)) (.m (.v 6) (.v 6)))) (.m (.m (.n (-1)) (.v 17)) (.m (.v 7) (.v 7)))) (.m (.m (.m (.n (-2)) (.v 18)) (.v 6)) (.v 7))) (.m (.m (.m (.n 2) (.v 17)) (.v 6)) (.v 7))) (.a (.a (.a (.m (.v 19) (.v 21)) (.m (.v 19) (.v 23))) (.m (.v 21) (.v 23))) (.m (.n 2) (.m (.v 7) (.v 18)))))) (.m (.a (.a (.a (.m (.m (.v 7) (.v 7)) (.v 7)) (.m (.n (-1)) (.m (.m (.v 6) (.v 6)) (.v 6)))) (.m (.m (.n (-3)) (.v 6)) (.m (.v 7) (.v 7)))) (.m (.m (.n 3) (.v 7)) (.m (.v 6) (.v 6)))) (.s (.m (.m (.v 19) (.v 21)) (.v 23)) (.s (.m (.v 18) (.v 18)) (.v 16))))) (.m (.a (.a (.a (.a (.a (.m (.v 6) (.m (.v 17) (.v 17))) (.m (.v 6) (.m (.v 18) (.v 18)))) (.m (.m (.n (-1)) (.v 7)) (.m (.v 17) (.v 17)))) (.m (.m (.n (-1)) (.v 7)) (.m (.v 18) (.v 18)))) (.m (.m (.m (.n (-2)) (.v 17)) (.v 18)) (.v 6))) (.m (.m (.m (.n 2) (.v 17)) (.v 18)) (.v 7))) (.s (.a (.a (.v 0) (.v 2)) (.v 4)) (.m (.v 6) (.v 6))))) (.m (.a (.a (.a (.a (.a (.m (.v 17) (.m (.v 6) (.v 6))) (.m (.v 17) (.m (.v 7) (.v 7)))) (.m (.m (.n (-1)) (.v 18)) (.m (.v 6) (.v 6)))) (.m (.m (.n (-1)) (.v 18)) (.m (.v 7) (.v 7)))) (.m (.m (.m (.n (-2)) (.v 17)) (.v 6)) (.v 7))) (.m (.m (.m (.n 2) (.v 18)) (.v 6)) (.v 7))) (.a (.a (.a (.m (.v 0) (.v 2)) (.m (.v 0) (.v 4))) (.m (.v 2) (.v 4))) (.m (.n 2) (.m (.v 6) (.v 17)))))) (.m (.a (.a (.a (.m (.m (.v 6) (.v 6)) (.v 6)) (.m (.n (-1)) (.m (.m (.v 7) (.v 7)) (.v 7)))) (.m (.m (.n (-3)) (.v 7)) (.m (.v 6) (.v 6)))) (.m (.m (.n 3) (.v 6)) (.m (.v 7) (.v 7)))) (.s (.m (.m (.v 0) (.v 2)) (.v 4)) (.s (.m (.v 17) (.v 17)) (.v 16)))))) rfl rfl (by decide +kernel)
 rw[e]
 exact (F.za (F.za (F.za (F.za (F.za (F.za (F.za (F.za (F.za (F.za (F.za (F.zm' _ b1) (F.zm' _ b2)) (F.zm' _ b3)) (F.zm' _ a1)) (F.zm' _ a2)) (F.zm' _ a3)) (F.zm' _ f1)) (F.zm' _ f2)) (F.zm' _ f3)) (F.zm' _ e1)) (F.zm' _ w2)) (F.zm' _ w3))
theorem sl_cc {x1 y1 x2 y2 x3 y3 l m n k xD yD xE yE:α}(c3n:F.Z (F.sub (F.sub yD y3) (F.mul n (F.sub xD x3))))(c3k:F.Z (F.sub (F.sub y1 yE) (F.mul k (F.sub x1 xE))))(kD:F.Z (F.sub yD (F.sub (F.mul l (F.sub x1 xD)) y1)))(hD:F.Z (F.sub xD (F.sub (F.sub (F.mul l l) x1) x2)))(kE:F.Z (F.sub yE (F.sub (F.mul m (F.sub x2 xE)) y2)))(hE:F.Z (F.sub xE (F.sub (F.sub (F.mul m m) x2) x3)))(c3l:F.Z (F.sub (F.sub y1 y2) (F.mul l (F.sub x1 x2))))(c3m:F.Z (F.sub (F.sub y2 y3) (F.mul m (F.sub x2 x3))))(ccl:F.Z (F.sub (F.mul l (F.add y1 y2)) (F.add (F.add (F.mul x1 x1) (F.mul x1 x2)) (F.mul x2 x2))))(ccm:F.Z (F.sub (F.mul m (F.add y2 y3)) (F.add (F.add (F.mul x2 x2) (F.mul x2 x3)) (F.mul x3 x3)))):F.Z (F.mul (F.sub (F.add l n) (F.add m k)) (F.mul (F.sub xD x3) (F.sub x1 xE))):=by
 have e:(F.mul (F.sub (F.add l n) (F.add m k)) (F.mul (F.sub xD x3) (F.sub x1 xE)))=(F.add (F.add (F.add (F.add (F.add (F.add (F.add (F.add (F.add (F.mul (F.add xE (F.mul (F.int (-1)) x1)) (F.sub (F.sub yD y3) (F.mul n (F.sub xD x3)))) (F.mul (F.add xD (F.mul (F.int (-1)) x3)) (F.sub (F.sub y1 yE) (F.mul k (F.sub x1 xE))))) (F.mul (F.add x1 (F.mul (F.int (-1)) xE)) (F.sub yD (F.sub (F.mul l (F.sub x1 xD)) y1)))) (F.mul (F.add (F.add (F.add yE (F.mul (F.int (-1)) y1)) (F.mul m xE)) (F.mul (F.mul (F.int (-1)) m) x1)) (F.sub xD (F.sub (F.sub (F.mul l l) x1) x2)))) (F.mul (F.add (F.add (F.add (F.mul l l) (F.mul (F.int (-1)) x1)) (F.mul (F.int (-1)) x2)) (F.mul (F.int (-1)) x3)) (F.sub yE (F.sub (F.mul m (F.sub x2 xE)) y2)))) (F.mul (F.add (F.add (F.add y1 y3) (F.mul l x3)) (F.mul (F.mul (F.int (-1)) l) x1)) (F.sub xE (F.sub (F.sub (F.mul m m) x2) x3)))) (F.mul (F.add (F.mul m m) (F.mul l m)) (F.sub (F.sub y1 y2) (F.mul l (F.sub x1 x2))))) (F.mul (F.add (F.add (F.add x1 x2) x3) (F.mul l m)) (F.sub (F.sub y2 y3) (F.mul m (F.sub x2 x3))))) (F.mul (F.add (F.mul (F.int (-1)) l) (F.mul (F.int (-1)) m)) (F.sub (F.mul l (F.add y1 y2)) (F.add (F.add (F.mul x1 x1) (F.mul x1 x2)) (F.mul x2 x2))))) (F.mul (F.add l m) (F.sub (F.mul m (F.add y2 y3)) (F.add (F.add (F.mul x2 x2) (F.mul x2 x3)) (F.mul x3 x3))))):=F.eq_of (fun k_=>match k_ with|0=>x1|1=>y1|2=>x2|3=>y2|4=>x3|5=>y3|6=>l|7=>m|8=>n|9=>k|10=>xD|11=>yD|12=>xE|13=>yE|14=>x1|15=>x1|16=>x1|17=>x1|18=>x1|19=>x1|20=>x1|21=>x1|22=>x1|23=>x1|_=>x1) (e:=(.m (.s (.a (.v 6) (.v 8)) (.a (.v 7) (.v 9))) (.m (.s (.v 10) (.v 4)) (.s (.v 0) (.v 12))))) (f:=(.a (.a (.a (.a (.a (.a (.a (.a (.a (.m (.a (.v 12) (.m (.n (-1)) (.v 0))) (.s (.s (.v 11) (.v 5)) (.m (.v 8) (.s (.v 10) (.v 4))))) (.m (.a (.v 10) (.m (.n (-1)) (.v 4))) (.s (.s (.v 1) (.v 13)) (.m (.v 9) (.s (.v 0) (.v 12)))))) (.m (.a (.v 0) (.m (.n (-1)) (.v 12))) (.s (.v 11) (.s (.m (.v 6) (.s (.v 0) (.v 10))) (.v 1))))) (.m (.a (.a (.a (.v 13) (.m (.n (-1)) (.v 1))) (.m (.v 7) (.v 12))) (.m (.m (.n (-1)) (.v 7)) (.v 0))) (.s (.v 10) (.s (.s (.m (.v 6) (.v 6)) (.v 0)) (.v 2))))) (.m (.a (.a (.a (.m (.v 6) (.v 6)) (.m (.n (-1)) (.v 0))) (.m (.n (-1)) (.v 2))) (.m (.n (-1)) (.v 4))) (.s (.v 13) (.s (.m (.v 7) (.s (.v 2) (.v 12))) (.v 3))))) (.m (.a (.a (.a (.v 1) (.v 5)) (.m (.v 6) (.v 4))) (.m (.m (.n (-1)) (.v 6)) (.v 0))) (.s (.v 12) (.s (.s (.m (.v 7) (.v 7)) (.v 2)) (.v 4))))) (.m (.a (.m (.v 7) (.v 7)) (.m (.v 6) (.v 7))) (.s (.s (.v 1) (.v 3)) (.m (.v 6) (.s (.v 0) (.v 2)))))) (.m (.a (.a (.a (.v 0) (.v 2)) (.v 4)) (.m (.v 6) (.v 7))) (.s (.s (.v 3) (.v 5)) (.m (.v 7) (.s (.v 2) (.v 4)))))) (.m (.a (.m (.n (-1)) (.v 6)) (.m (.n (-1)) (.v 7))) (.s (.m (.v 6) (.a (.v 1) (.v 3))) (.a (.a (.m (.v 0) (.v 0)) (.m (.v 0) (.v 2))) (.m (.v 2) (.v 2)))))) (.m (.a (.v 6) (.v 7)) (.s (.m (.v 7) (.a (.v 3) (.v 5))) (.a (.a (.m (.v 2) (.v 2)) (.m (.v 2) (.v 4))) (.m (.v 4) (.v 4))))))) rfl rfl (by decide +kernel)
 rw[e]
 exact (F.za (F.za (F.za (F.za (F.za (F.za (F.za (F.za (F.za (F.zm' _ c3n) (F.zm' _ c3k)) (F.zm' _ kD)) (F.zm' _ hD)) (F.zm' _ kE)) (F.zm' _ hE)) (F.zm' _ c3l)) (F.zm' _ c3m)) (F.zm' _ ccl)) (F.zm' _ ccm))
theorem sl_ct {x1 y1 x2 y2 x3 y3 l m n k xD yD xE yE:α}(c3n:F.Z (F.sub (F.sub yD y3) (F.mul n (F.sub xD x3))))(cck:F.Z (F.sub (F.mul k (F.add y1 yE)) (F.add (F.add (F.mul x1 x1) (F.mul x1 xE)) (F.mul xE xE))))(kD:F.Z (F.sub yD (F.sub (F.mul l (F.sub x1 xD)) y1)))(hD:F.Z (F.sub xD (F.sub (F.sub (F.mul l l) x1) x2)))(kE:F.Z (F.sub yE (F.sub (F.mul m (F.sub x2 xE)) y2)))(hE:F.Z (F.sub xE (F.sub (F.sub (F.mul m m) x2) x3)))(c3l:F.Z (F.sub (F.sub y1 y2) (F.mul l (F.sub x1 x2))))(c3m:F.Z (F.sub (F.sub y2 y3) (F.mul m (F.sub x2 x3))))(ccl:F.Z (F.sub (F.mul l (F.add y1 y2)) (F.add (F.add (F.mul x1 x1) (F.mul x1 x2)) (F.mul x2 x2))))(ccm:F.Z (F.sub (F.mul m (F.add y2 y3)) (F.add (F.add (F.mul x2 x2) (F.mul x2 x3)) (F.mul x3 x3)))):F.Z (F.mul (F.sub (F.add l n) (F.add m k)) (F.mul (F.sub xD x3) (F.add y1 yE))):=by
 have e:(F.mul (F.sub (F.add l n) (F.add m k)) (F.mul (F.sub xD x3) (F.add y1 yE)))=(F.add (F.add (F.add (F.add (F.add (F.add (F.add (F.add (F.add (F.mul (F.add (F.mul (F.int (-1)) y1) (F.mul (F.int (-1)) yE)) (F.sub (F.sub yD y3) (F.mul n (F.sub xD x3)))) (F.mul (F.add x3 (F.mul (F.int (-1)) xD)) (F.sub (F.mul k (F.add y1 yE)) (F.add (F.add (F.mul x1 x1) (F.mul x1 xE)) (F.mul xE xE))))) (F.mul (F.add y1 yE) (F.sub yD (F.sub (F.mul l (F.sub x1 xD)) y1)))) (F.mul (F.add (F.add (F.add (F.add (F.mul (F.int (-1)) (F.mul x1 x1)) (F.mul (F.int (-1)) (F.mul xE xE))) (F.mul (F.mul (F.int (-1)) m) y1)) (F.mul (F.mul (F.int (-1)) m) yE)) (F.mul (F.mul (F.int (-1)) x1) xE)) (F.sub xD (F.sub (F.sub (F.mul l l) x1) x2)))) (F.mul (F.add (F.add (F.add (F.add (F.add (F.add (F.add (F.mul (F.int (-1)) y1) (F.mul (F.int (-1)) y3)) (F.mul l x1)) (F.mul m x1)) (F.mul m x2)) (F.mul m x3)) (F.mul (F.mul (F.int (-1)) l) x3)) (F.mul (F.mul (F.int (-1)) m) (F.mul l l))) (F.sub yE (F.sub (F.mul m (F.sub x2 xE)) y2)))) (F.mul (F.add (F.add (F.add (F.add (F.add (F.add (F.add (F.add (F.add (F.add (F.add (F.add (F.add (F.add (F.mul x1 x1) (F.mul (F.int (-1)) (F.mul x2 x2))) (F.mul (F.int (-1)) (F.mul x3 x3))) (F.mul m y1)) (F.mul m y3)) (F.mul x1 xE)) (F.mul x2 xE)) (F.mul x2 (F.mul l l))) (F.mul x3 xE)) (F.mul x3 (F.mul l l))) (F.mul (F.mul (F.int (-1)) x1) (F.mul l l))) (F.mul (F.mul (F.int (-1)) xE) (F.mul l l))) (F.mul (F.mul (F.int (-2)) x2) x3)) (F.mul (F.mul l m) x3)) (F.mul (F.mul (F.mul (F.int (-1)) l) m) x1)) (F.sub xE (F.sub (F.sub (F.mul m m) x2) x3)))) (F.mul (F.add (F.add (F.add (F.add (F.add (F.add (F.add (F.mul (F.mul m m) m) (F.mul (F.int (-1)) y1)) (F.mul (F.int (-1)) y3)) (F.mul l x1)) (F.mul l (F.mul m m))) (F.mul m x1)) (F.mul (F.mul (F.int (-1)) l) x3)) (F.mul (F.mul (F.int (-1)) m) x2)) (F.sub (F.sub y1 y2) (F.mul l (F.sub x1 x2))))) (F.mul (F.add (F.add (F.add (F.mul l x1) (F.mul l (F.mul m m))) (F.mul m (F.mul l l))) (F.mul (F.mul (F.int (-1)) l) x2)) (F.sub (F.sub y2 y3) (F.mul m (F.sub x2 x3))))) (F.mul (F.add (F.add (F.add x2 (F.mul (F.int (-1)) x1)) (F.mul (F.int (-1)) (F.mul m m))) (F.mul (F.mul (F.int (-1)) l) m)) (F.sub (F.mul l (F.add y1 y2)) (F.add (F.add (F.mul x1 x1) (F.mul x1 x2)) (F.mul x2 x2))))) (F.mul (F.add (F.add (F.add (F.add (F.mul l l) (F.mul m m)) (F.mul (F.int (-1)) x3)) (F.mul (F.int (-2)) x2)) (F.mul l m)) (F.sub (F.mul m (F.add y2 y3)) (F.add (F.add (F.mul x2 x2) (F.mul x2 x3)) (F.mul x3 x3))))):=F.eq_of (fun k_=>match k_ with|0=>x1|1=>y1|2=>x2|3=>y2|4=>x3|5=>y3|6=>l|7=>m|8=>n|9=>k|10=>xD|11=>yD|12=>xE|13=>yE|14=>x1|15=>x1|16=>x1|17=>x1|18=>x1|19=>x1|20=>x1|21=>x1|22=>x1|23=>x1|_=>x1) (e:=(.m (.s (.a (.v 6) (.v 8)) (.a (.v 7) (.v 9))) (.m (.s (.v 10) (.v 4)) (.a (.v 1) (.v 13))))) (f:=(.a (.a (.a (.a (.a (.a (.a (.a (.a (.m (.a (.m (.n (-1)) (.v 1)) (.m (.n (-1)) (.v 13))) (.s (.s (.v 11) (.v 5)) (.m (.v 8) (.s (.v 10) (.v 4))))) (.m (.a (.v 4) (.m (.n (-1)) (.v 10))) (.s (.m (.v 9) (.a (.v 1) (.v 13))) (.a (.a (.m (.v 0) (.v 0)) (.m (.v 0) (.v 12))) (.m (.v 12) (.v 12)))))) (.m (.a (.v 1) (.v 13)) (.s (.v 11) (.s (.m (.v 6) (.s (.v 0) (.v 10))) (.v 1))))) (.m (.a (.a (.a (.a (.m (.n (-1)) (.m (.v 0) (.v 0))) (.m (.n (-1)) (.m (.v 12) (.v 12)))) (.m (.m (.n (-1)) (.v 7)) (.v 1))) (.m (.m (.n (-1)) (.v 7)) (.v 13))) (.m (.m (.n (-1)) (.v 0)) (.v 12))) (.s (.v 10) (.s (.s (.m (.v 6) (.v 6)) (.v 0)) (.v 2))))) (.m (.a (.a (.a (.a (.a (.a (.a (.m (.n (-1)) (.v 1)) (.m (.n (-1)) (.v 5))) (.m (.v 6) (.v 0))) (.m (.v 7) (.v 0))) (.m (.v 7) (.v 2))) (.m (.v 7) (.v 4))) (.m (.m (.n (-1)) (.v 6)) (.v 4))) (.m (.m (.n (-1)) (.v 7)) (.m (.v 6) (.v 6)))) (.s (.v 13) (.s (.m (.v 7) (.s (.v 2) (.v 12))) (.v 3))))) (.m (.a (.a (.a (.a (.a (.a (.a (.a (.a (.a (.a (.a (.a (.a (.m (.v 0) (.v 0)) (.m (.n (-1)) (.m (.v 2) (.v 2)))) (.m (.n (-1)) (.m (.v 4) (.v 4)))) (.m (.v 7) (.v 1))) (.m (.v 7) (.v 5))) (.m (.v 0) (.v 12))) (.m (.v 2) (.v 12))) (.m (.v 2) (.m (.v 6) (.v 6)))) (.m (.v 4) (.v 12))) (.m (.v 4) (.m (.v 6) (.v 6)))) (.m (.m (.n (-1)) (.v 0)) (.m (.v 6) (.v 6)))) (.m (.m (.n (-1)) (.v 12)) (.m (.v 6) (.v 6)))) (.m (.m (.n (-2)) (.v 2)) (.v 4))) (.m (.m (.v 6) (.v 7)) (.v 4))) (.m (.m (.m (.n (-1)) (.v 6)) (.v 7)) (.v 0))) (.s (.v 12) (.s (.s (.m (.v 7) (.v 7)) (.v 2)) (.v 4))))) (.m (.a (.a (.a (.a (.a (.a (.a (.m (.m (.v 7) (.v 7)) (.v 7)) (.m (.n (-1)) (.v 1))) (.m (.n (-1)) (.v 5))) (.m (.v 6) (.v 0))) (.m (.v 6) (.m (.v 7) (.v 7)))) (.m (.v 7) (.v 0))) (.m (.m (.n (-1)) (.v 6)) (.v 4))) (.m (.m (.n (-1)) (.v 7)) (.v 2))) (.s (.s (.v 1) (.v 3)) (.m (.v 6) (.s (.v 0) (.v 2)))))) (.m (.a (.a (.a (.m (.v 6) (.v 0)) (.m (.v 6) (.m (.v 7) (.v 7)))) (.m (.v 7) (.m (.v 6) (.v 6)))) (.m (.m (.n (-1)) (.v 6)) (.v 2))) (.s (.s (.v 3) (.v 5)) (.m (.v 7) (.s (.v 2) (.v 4)))))) (.m (.a (.a (.a (.v 2) (.m (.n (-1)) (.v 0))) (.m (.n (-1)) (.m (.v 7) (.v 7)))) (.m (.m (.n (-1)) (.v 6)) (.v 7))) (.s (.m (.v 6) (.a (.v 1) (.v 3))) (.a (.a (.m (.v 0) (.v 0)) (.m (.v 0) (.v 2))) (.m (.v 2) (.v 2)))))) (.m (.a (.a (.a (.a (.m (.v 6) (.v 6)) (.m (.v 7) (.v 7))) (.m (.n (-1)) (.v 4))) (.m (.n (-2)) (.v 2))) (.m (.v 6) (.v 7))) (.s (.m (.v 7) (.a (.v 3) (.v 5))) (.a (.a (.m (.v 2) (.v 2)) (.m (.v 2) (.v 4))) (.m (.v 4) (.v 4))))))) rfl rfl (by decide +kernel)
 rw[e]
 exact (F.za (F.za (F.za (F.za (F.za (F.za (F.za (F.za (F.za (F.zm' _ c3n) (F.zm' _ cck)) (F.zm' _ kD)) (F.zm' _ hD)) (F.zm' _ kE)) (F.zm' _ hE)) (F.zm' _ c3l)) (F.zm' _ c3m)) (F.zm' _ ccl)) (F.zm' _ ccm))
theorem sl_tc {x1 y1 x2 y2 x3 y3 l m n k xD yD xE yE:α}(ccn:F.Z (F.sub (F.mul n (F.add yD y3)) (F.add (F.add (F.mul xD xD) (F.mul xD x3)) (F.mul x3 x3))))(c3k:F.Z (F.sub (F.sub y1 yE) (F.mul k (F.sub x1 xE))))(kD:F.Z (F.sub yD (F.sub (F.mul l (F.sub x1 xD)) y1)))(hD:F.Z (F.sub xD (F.sub (F.sub (F.mul l l) x1) x2)))(kE:F.Z (F.sub yE (F.sub (F.mul m (F.sub x2 xE)) y2)))(hE:F.Z (F.sub xE (F.sub (F.sub (F.mul m m) x2) x3)))(c3l:F.Z (F.sub (F.sub y1 y2) (F.mul l (F.sub x1 x2))))(c3m:F.Z (F.sub (F.sub y2 y3) (F.mul m (F.sub x2 x3))))(ccl:F.Z (F.sub (F.mul l (F.add y1 y2)) (F.add (F.add (F.mul x1 x1) (F.mul x1 x2)) (F.mul x2 x2))))(ccm:F.Z (F.sub (F.mul m (F.add y2 y3)) (F.add (F.add (F.mul x2 x2) (F.mul x2 x3)) (F.mul x3 x3)))):F.Z (F.mul (F.sub (F.add l n) (F.add m k)) (F.mul (F.add yD y3) (F.sub x1 xE))):=by
 have e:(F.mul (F.sub (F.add l n) (F.add m k)) (F.mul (F.add yD y3) (F.sub x1 xE)))=(F.add (F.add (F.add (F.add (F.add (F.add (F.add (F.add (F.add (F.mul (F.add x1 (F.mul (F.int (-1)) xE)) (F.sub (F.mul n (F.add yD y3)) (F.add (F.add (F.mul xD xD) (F.mul xD x3)) (F.mul x3 x3)))) (F.mul (F.add y3 yD) (F.sub (F.sub y1 yE) (F.mul k (F.sub x1 xE))))) (F.mul (F.add (F.add (F.add (F.add (F.add yE (F.mul (F.int (-1)) y1)) (F.mul l x1)) (F.mul m xE)) (F.mul (F.mul (F.int (-1)) l) xE)) (F.mul (F.mul (F.int (-1)) m) x1)) (F.sub yD (F.sub (F.mul l (F.sub x1 xD)) y1)))) (F.mul (F.add (F.add (F.add (F.add (F.add (F.add (F.add (F.add (F.add (F.add (F.add (F.mul (F.int (-1)) (F.mul x1 x1)) (F.mul l y1)) (F.mul x1 x3)) (F.mul x1 xD)) (F.mul x1 xE)) (F.mul x2 xE)) (F.mul (F.mul (F.int (-1)) l) yE)) (F.mul (F.mul (F.int (-1)) x1) x2)) (F.mul (F.mul (F.int (-1)) x3) xE)) (F.mul (F.mul (F.int (-1)) xD) xE)) (F.mul (F.mul l m) x1)) (F.mul (F.mul (F.mul (F.int (-1)) l) m) xE)) (F.sub xD (F.sub (F.sub (F.mul l l) x1) x2)))) (F.mul (F.add (F.add (F.add (F.add y3 (F.mul (F.int (-1)) y1)) (F.mul (F.int (-1)) (F.mul (F.mul l l) l))) (F.mul l x2)) (F.mul (F.mul (F.int 2) l) x1)) (F.sub yE (F.sub (F.mul m (F.sub x2 xE)) y2)))) (F.mul (F.add (F.add (F.add (F.add (F.add (F.add (F.add (F.add (F.add (F.mul (F.int (-1)) (F.mul x1 x1)) (F.mul (F.int (-1)) (F.mul x2 x2))) (F.mul (F.int (-1)) (F.mul x3 x3))) (F.mul l y1)) (F.mul x1 x3)) (F.mul x2 x3)) (F.mul x2 (F.mul l l))) (F.mul (F.mul (F.int (-1)) l) y3)) (F.mul (F.mul (F.int (-1)) x3) (F.mul l l))) (F.mul (F.mul (F.int (-2)) x1) x2)) (F.sub xE (F.sub (F.sub (F.mul m m) x2) x3)))) (F.mul (F.add (F.add (F.add (F.add (F.add (F.add (F.add (F.add y1 (F.mul (F.int (-1)) y3)) (F.mul (F.int 2) y2)) (F.mul m x1)) (F.mul (F.mul (F.int (-1)) l) x1)) (F.mul (F.mul (F.int (-1)) l) x2)) (F.mul (F.mul (F.int (-1)) l) x3)) (F.mul (F.mul (F.int (-1)) m) x2)) (F.mul (F.mul (F.int (-1)) m) (F.mul l l))) (F.sub (F.sub y1 y2) (F.mul l (F.sub x1 x2))))) (F.mul (F.add (F.add (F.add (F.add (F.add (F.mul (F.int 2) y2) (F.mul m x1)) (F.mul (F.mul (F.int (-1)) l) x3)) (F.mul (F.mul (F.int (-1)) m) x3)) (F.mul (F.mul (F.int (-1)) m) (F.mul l l))) (F.mul (F.mul (F.int (-2)) l) x2)) (F.sub (F.sub y2 y3) (F.mul m (F.sub x2 x3))))) (F.mul (F.add (F.add (F.add (F.add (F.mul l l) (F.mul m m)) (F.mul (F.int (-1)) x1)) (F.mul (F.int (-2)) x2)) (F.mul l m)) (F.sub (F.mul l (F.add y1 y2)) (F.add (F.add (F.mul x1 x1) (F.mul x1 x2)) (F.mul x2 x2))))) (F.mul (F.add (F.add (F.add x2 (F.mul (F.int (-1)) x3)) (F.mul (F.int (-1)) (F.mul l l))) (F.mul (F.mul (F.int (-1)) l) m)) (F.sub (F.mul m (F.add y2 y3)) (F.add (F.add (F.mul x2 x2) (F.mul x2 x3)) (F.mul x3 x3))))):=F.eq_of (fun k_=>match k_ with|0=>x1|1=>y1|2=>x2|3=>y2|4=>x3|5=>y3|6=>l|7=>m|8=>n|9=>k|10=>xD|11=>yD|12=>xE|13=>yE|14=>x1|15=>x1|16=>x1|17=>x1|18=>x1|19=>x1|20=>x1|21=>x1|22=>x1|23=>x1|_=>x1) (e:=(.m (.s (.a (.v 6) (.v 8)) (.a (.v 7) (.v 9))) (.m (.a (.v 11) (.v 5)) (.s (.v 0) (.v 12))))) (f:=(.a (.a (.a (.a (.a (.a (.a (.a (.a (.m (.a (.v 0) (.m (.n (-1)) (.v 12))) (.s (.m (.v 8) (.a (.v 11) (.v 5))) (.a (.a (.m (.v 10) (.v 10)) (.m (.v 10) (.v 4))) (.m (.v 4) (.v 4))))) (.m (.a (.v 5) (.v 11)) (.s (.s (.v 1) (.v 13)) (.m (.v 9) (.s (.v 0) (.v 12)))))) (.m (.a (.a (.a (.a (.a (.v 13) (.m (.n (-1)) (.v 1))) (.m (.v 6) (.v 0))) (.m (.v 7) (.v 12))) (.m (.m (.n (-1)) (.v 6)) (.v 12))) (.m (.m (.n (-1)) (.v 7)) (.v 0))) (.s (.v 11) (.s (.m (.v 6) (.s (.v 0) (.v 10))) (.v 1))))) (.m (.a (.a (.a (.a (.a (.a (.a (.a (.a (.a (.a (.m (.n (-1)) (.m (.v 0) (.v 0))) (.m (.v 6) (.v 1))) (.m (.v 0) (.v 4))) (.m (.v 0) (.v 10))) (.m (.v 0) (.v 12))) (.m (.v 2) (.v 12))) (.m (.m (.n (-1)) (.v 6)) (.v 13))) (.m (.m (.n (-1)) (.v 0)) (.v 2))) (.m (.m (.n (-1)) (.v 4)) (.v 12))) (.m (.m (.n (-1)) (.v 10)) (.v 12))) (.m (.m (.v 6) (.v 7)) (.v 0))) (.m (.m (.m (.n (-1)) (.v 6)) (.v 7)) (.v 12))) (.s (.v 10) (.s (.s (.m (.v 6) (.v 6)) (.v 0)) (.v 2))))) (.m (.a (.a (.a (.a (.v 5) (.m (.n (-1)) (.v 1))) (.m (.n (-1)) (.m (.m (.v 6) (.v 6)) (.v 6)))) (.m (.v 6) (.v 2))) (.m (.m (.n 2) (.v 6)) (.v 0))) (.s (.v 13) (.s (.m (.v 7) (.s (.v 2) (.v 12))) (.v 3))))) (.m (.a (.a (.a (.a (.a (.a (.a (.a (.a (.m (.n (-1)) (.m (.v 0) (.v 0))) (.m (.n (-1)) (.m (.v 2) (.v 2)))) (.m (.n (-1)) (.m (.v 4) (.v 4)))) (.m (.v 6) (.v 1))) (.m (.v 0) (.v 4))) (.m (.v 2) (.v 4))) (.m (.v 2) (.m (.v 6) (.v 6)))) (.m (.m (.n (-1)) (.v 6)) (.v 5))) (.m (.m (.n (-1)) (.v 4)) (.m (.v 6) (.v 6)))) (.m (.m (.n (-2)) (.v 0)) (.v 2))) (.s (.v 12) (.s (.s (.m (.v 7) (.v 7)) (.v 2)) (.v 4))))) (.m (.a (.a (.a (.a (.a (.a (.a (.a (.v 1) (.m (.n (-1)) (.v 5))) (.m (.n 2) (.v 3))) (.m (.v 7) (.v 0))) (.m (.m (.n (-1)) (.v 6)) (.v 0))) (.m (.m (.n (-1)) (.v 6)) (.v 2))) (.m (.m (.n (-1)) (.v 6)) (.v 4))) (.m (.m (.n (-1)) (.v 7)) (.v 2))) (.m (.m (.n (-1)) (.v 7)) (.m (.v 6) (.v 6)))) (.s (.s (.v 1) (.v 3)) (.m (.v 6) (.s (.v 0) (.v 2)))))) (.m (.a (.a (.a (.a (.a (.m (.n 2) (.v 3)) (.m (.v 7) (.v 0))) (.m (.m (.n (-1)) (.v 6)) (.v 4))) (.m (.m (.n (-1)) (.v 7)) (.v 4))) (.m (.m (.n (-1)) (.v 7)) (.m (.v 6) (.v 6)))) (.m (.m (.n (-2)) (.v 6)) (.v 2))) (.s (.s (.v 3) (.v 5)) (.m (.v 7) (.s (.v 2) (.v 4)))))) (.m (.a (.a (.a (.a (.m (.v 6) (.v 6)) (.m (.v 7) (.v 7))) (.m (.n (-1)) (.v 0))) (.m (.n (-2)) (.v 2))) (.m (.v 6) (.v 7))) (.s (.m (.v 6) (.a (.v 1) (.v 3))) (.a (.a (.m (.v 0) (.v 0)) (.m (.v 0) (.v 2))) (.m (.v 2) (.v 2)))))) (.m (.a (.a (.a (.v 2) (.m (.n (-1)) (.v 4))) (.m (.n (-1)) (.m (.v 6) (.v 6)))) (.m (.m (.n (-1)) (.v 6)) (.v 7))) (.s (.m (.v 7) (.a (.v 3) (.v 5))) (.a (.a (.m (.v 2) (.v 2)) (.m (.v 2) (.v 4))) (.m (.v 4) (.v 4))))))) rfl rfl (by decide +kernel)
 rw[e]
 exact (F.za (F.za (F.za (F.za (F.za (F.za (F.za (F.za (F.za (F.zm' _ ccn) (F.zm' _ c3k)) (F.zm' _ kD)) (F.zm' _ hD)) (F.zm' _ kE)) (F.zm' _ hE)) (F.zm' _ c3l)) (F.zm' _ c3m)) (F.zm' _ ccl)) (F.zm' _ ccm))
theorem sl_tt {x1 y1 x2 y2 x3 y3 l m n k xD yD xE yE:α}(ccn:F.Z (F.sub (F.mul n (F.add yD y3)) (F.add (F.add (F.mul xD xD) (F.mul xD x3)) (F.mul x3 x3))))(cck:F.Z (F.sub (F.mul k (F.add y1 yE)) (F.add (F.add (F.mul x1 x1) (F.mul x1 xE)) (F.mul xE xE))))(kD:F.Z (F.sub yD (F.sub (F.mul l (F.sub x1 xD)) y1)))(hD:F.Z (F.sub xD (F.sub (F.sub (F.mul l l) x1) x2)))(kE:F.Z (F.sub yE (F.sub (F.mul m (F.sub x2 xE)) y2)))(hE:F.Z (F.sub xE (F.sub (F.sub (F.mul m m) x2) x3)))(c3l:F.Z (F.sub (F.sub y1 y2) (F.mul l (F.sub x1 x2))))(c3m:F.Z (F.sub (F.sub y2 y3) (F.mul m (F.sub x2 x3))))(ccl:F.Z (F.sub (F.mul l (F.add y1 y2)) (F.add (F.add (F.mul x1 x1) (F.mul x1 x2)) (F.mul x2 x2))))(ccm:F.Z (F.sub (F.mul m (F.add y2 y3)) (F.add (F.add (F.mul x2 x2) (F.mul x2 x3)) (F.mul x3 x3)))):F.Z (F.mul (F.sub (F.add l n) (F.add m k)) (F.mul (F.add yD y3) (F.add y1 yE))):=by
 have e:(F.mul (F.sub (F.add l n) (F.add m k)) (F.mul (F.add yD y3) (F.add y1 yE)))=(F.add (F.add (F.add (F.add (F.add (F.add (F.add (F.add (F.add (F.mul (F.add y1 yE) (F.sub (F.mul n (F.add yD y3)) (F.add (F.add (F.mul xD xD) (F.mul xD x3)) (F.mul x3 x3)))) (F.mul (F.add (F.mul (F.int (-1)) y3) (F.mul (F.int (-1)) yD)) (F.sub (F.mul k (F.add y1 yE)) (F.add (F.add (F.mul x1 x1) (F.mul x1 xE)) (F.mul xE xE))))) (F.mul (F.add (F.add (F.add (F.add (F.add (F.add (F.mul (F.int (-1)) (F.mul x1 x1)) (F.mul (F.int (-1)) (F.mul xE xE))) (F.mul l y1)) (F.mul l yE)) (F.mul (F.mul (F.int (-1)) m) y1)) (F.mul (F.mul (F.int (-1)) m) yE)) (F.mul (F.mul (F.int (-1)) x1) xE)) (F.sub yD (F.sub (F.mul l (F.sub x1 xD)) y1)))) (F.mul (F.add (F.add (F.add (F.add (F.add (F.add (F.add (F.add (F.add (F.add (F.add (F.add (F.mul l (F.mul x1 x1)) (F.mul l (F.mul xE xE))) (F.mul x3 y1)) (F.mul x3 yE)) (F.mul xD y1)) (F.mul xD yE)) (F.mul (F.mul (F.int (-1)) x1) y1)) (F.mul (F.mul (F.int (-1)) x1) yE)) (F.mul (F.mul (F.int (-1)) x2) y1)) (F.mul (F.mul (F.int (-1)) x2) yE)) (F.mul (F.mul l m) y1)) (F.mul (F.mul l m) yE)) (F.mul (F.mul l x1) xE)) (F.sub xD (F.sub (F.sub (F.mul l l) x1) x2)))) (F.mul (F.add (F.add (F.add (F.add (F.add (F.add (F.add (F.add (F.add (F.add (F.add (F.add (F.add (F.add (F.mul x1 x1) (F.mul x2 x2)) (F.mul x3 x3)) (F.mul l y3)) (F.mul m y1)) (F.mul m (F.mul (F.mul l l) l))) (F.mul x3 (F.mul l l))) (F.mul (F.mul (F.int (-1)) l) y1)) (F.mul (F.mul (F.int (-1)) m) y3)) (F.mul (F.mul (F.int (-1)) x1) x3)) (F.mul (F.mul (F.int (-1)) x2) x3)) (F.mul (F.mul (F.int (-1)) x2) (F.mul l l))) (F.mul (F.mul (F.int 2) x1) x2)) (F.mul (F.mul (F.mul (F.int (-1)) l) m) x2)) (F.mul (F.mul (F.mul (F.int (-2)) l) m) x1)) (F.sub yE (F.sub (F.mul m (F.sub x2 xE)) y2)))) (F.mul (F.add (F.add (F.add (F.add (F.add (F.add (F.add (F.add (F.add (F.add (F.add (F.add (F.add (F.add (F.add (F.add (F.add (F.add (F.add (F.add (F.add (F.add (F.add (F.add (F.add (F.add (F.add (F.add (F.mul l (F.mul x2 x2)) (F.mul x1 y1)) (F.mul x1 (F.mul (F.mul l l) l))) (F.mul x2 y3)) (F.mul x3 y3)) (F.mul xE y1)) (F.mul xE (F.mul (F.mul l l) l))) (F.mul (F.mul (F.int (-1)) m) (F.mul x1 x1))) (F.mul (F.mul (F.int (-1)) m) (F.mul x2 x2))) (F.mul (F.mul (F.int (-1)) m) (F.mul x3 x3))) (F.mul (F.mul (F.int (-1)) x1) y3)) (F.mul (F.mul (F.int (-1)) x2) y1)) (F.mul (F.mul (F.int (-1)) x2) (F.mul (F.mul l l) l))) (F.mul (F.mul (F.int (-1)) x3) y1)) (F.mul (F.mul (F.int (-1)) x3) (F.mul (F.mul l l) l))) (F.mul (F.mul (F.int (-1)) xE) y3)) (F.mul (F.mul (F.int (-2)) l) (F.mul x1 x1))) (F.mul (F.mul l m) y1)) (F.mul (F.mul l x1) x2)) (F.mul (F.mul l x2) x3)) (F.mul (F.mul m x1) x3)) (F.mul (F.mul m x2) x3)) (F.mul (F.mul m x2) (F.mul l l))) (F.mul (F.mul (F.mul (F.int (-1)) l) m) y3)) (F.mul (F.mul (F.mul (F.int (-1)) l) x2) xE)) (F.mul (F.mul (F.mul (F.int (-1)) m) x3) (F.mul l l))) (F.mul (F.mul (F.mul (F.int (-2)) l) x1) xE)) (F.mul (F.mul (F.mul (F.int (-2)) m) x1) x2)) (F.mul (F.mul (F.mul (F.int 2) l) x1) x3)) (F.sub xE (F.sub (F.sub (F.mul m m) x2) x3)))) (F.mul (F.add (F.add (F.add (F.add (F.add (F.add (F.add (F.add (F.add (F.add (F.add (F.add (F.add (F.add (F.add (F.add (F.add (F.mul (F.int 2) (F.mul x1 x1)) (F.mul (F.int 2) (F.mul x2 x2))) (F.mul (F.int 2) (F.mul x3 x3))) (F.mul l y3)) (F.mul m y1)) (F.mul x1 x2)) (F.mul x1 (F.mul m m))) (F.mul x2 x3)) (F.mul x3 (F.mul l l))) (F.mul (F.mul (F.int (-1)) l) y1)) (F.mul (F.mul (F.int (-1)) m) y3)) (F.mul (F.mul (F.int (-1)) x1) (F.mul l l))) (F.mul (F.mul (F.int (-1)) x3) (F.mul m m))) (F.mul (F.mul (F.int (-1)) (F.mul l l)) (F.mul m m))) (F.mul (F.mul (F.int (-2)) x1) x3)) (F.mul (F.mul (F.mul (F.int (-1)) l) m) x1)) (F.mul (F.mul (F.mul (F.int (-1)) l) m) x2)) (F.mul (F.mul (F.mul (F.int (-1)) l) m) x3)) (F.sub (F.sub y1 y2) (F.mul l (F.sub x1 x2))))) (F.mul (F.add (F.add (F.add (F.add (F.add (F.add (F.add (F.add (F.add (F.add (F.add (F.add (F.add (F.mul x1 x1) (F.mul x2 x2)) (F.mul x3 x3)) (F.mul x1 (F.mul m m))) (F.mul x2 (F.mul l l))) (F.mul (F.mul (F.int (-1)) m) (F.mul (F.mul l l) l))) (F.mul (F.mul (F.int (-1)) x1) x2)) (F.mul (F.mul (F.int (-1)) x1) x3)) (F.mul (F.mul (F.int (-1)) x1) (F.mul l l))) (F.mul (F.mul (F.int (-1)) x3) (F.mul m m))) (F.mul (F.mul (F.int (-1)) (F.mul l l)) (F.mul m m))) (F.mul (F.mul (F.int 2) x2) x3)) (F.mul (F.mul l m) x1)) (F.mul (F.mul (F.mul (F.int (-1)) l) m) x3)) (F.sub (F.sub y2 y3) (F.mul m (F.sub x2 x3))))) (F.mul (F.add (F.add (F.add (F.mul (F.mul m m) m) (F.mul l (F.mul m m))) (F.mul m (F.mul l l))) (F.mul (F.mul (F.int (-3)) m) x2)) (F.sub (F.mul l (F.add y1 y2)) (F.add (F.add (F.mul x1 x1) (F.mul x1 x2)) (F.mul x2 x2))))) (F.mul (F.add (F.add (F.add (F.mul (F.int (-1)) (F.mul (F.mul l l) l)) (F.mul (F.mul (F.int (-1)) l) (F.mul m m))) (F.mul (F.mul (F.int (-1)) m) (F.mul l l))) (F.mul (F.mul (F.int 3) l) x2)) (F.sub (F.mul m (F.add y2 y3)) (F.add (F.add (F.mul x2 x2) (F.mul x2 x3)) (F.mul x3 x3))))):=F.eq_of (fun k_=>match k_ with|0=>x1|1=>y1|2=>x2|3=>y2|4=>x3|5=>y3|6=>l|7=>m|8=>n|9=>k|10=>xD|11=>yD|12=>xE|13=>yE|14=>x1|15=>x1|16=>x1|17=>x1|18=>x1|19=>x1|20=>x1|21=>x1|22=>x1|23=>x1|_=>x1) (e:=(.m (.s (.a (.v 6) (.v 8)) (.a (.v 7) (.v 9))) (.m (.a (.v 11) (.v 5)) (.a (.v 1) (.v 13))))) (f:=(.a (.a (.a (.a (.a (.a (.a (.a (.a (.m (.a (.v 1) (.v 13)) (.s (.m (.v 8) (.a (.v 11) (.v 5))) (.a (.a (.m (.v 10) (.v 10)) (.m (.v 10) (.v 4))) (.m (.v 4) (.v 4))))) (.m (.a (.m (.n (-1)) (.v 5)) (.m (.n (-1)) (.v 11))) (.s (.m (.v 9) (.a (.v 1) (.v 13))) (.a (.a (.m (.v 0) (.v 0)) (.m (.v 0) (.v 12))) (.m (.v 12) (.v 12)))))) (.m (.a (.a (.a (.a (.a (.a (.m (.n (-1)) (.m (.v 0) (.v 0))) (.m (.n (-1)) (.m (.v 12) (.v 12)))) (.m (.v 6) (.v 1))) (.m (.v 6) (.v 13))) (.m (.m (.n (-1)) (.v 7)) (.v 1))) (.m (.m (.n (-1)) (.v 7)) (.v 13))) (.m (.m (.n (-1)) (.v 0)) (.v 12))) (.s (.v 11) (.s (.m (.v 6) (.s (.v 0) (.v 10))) (.v 1))))) (.m (.a (.a (.a (.a (.a (.a (.a (.a (.a (.a (.a (.a (.m (.v 6) (.m (.v 0) (.v 0))) (.m (.v 6) (.m (.v 12) (.v 12)))) (.m (.v 4) (.v 1))) (.m (.v 4) (.v 13))) (.m (.v 10) (.v 1))) (.m (.v 10) (.v 13))) (.m (.m (.n (-1)) (.v 0)) (.v 1))) (.m (.m (.n (-1)) (.v 0)) (.v 13))) (.m (.m (.n (-1)) (.v 2)) (.v 1))) (.m (.m (.n (-1)) (.v 2)) (.v 13))) (.m (.m (.v 6) (.v 7)) (.v 1))) (.m (.m (.v 6) (.v 7)) (.v 13))) (.m (.m (.v 6) (.v 0)) (.v 12))) (.s (.v 10) (.s (.s (.m (.v 6) (.v 6)) (.v 0)) (.v 2))))) (.m (.a (.a (.a (.a (.a (.a (.a (.a (.a (.a (.a (.a (.a (.a (.m (.v 0) (.v 0)) (.m (.v 2) (.v 2))) (.m (.v 4) (.v 4))) (.m (.v 6) (.v 5))) (.m (.v 7) (.v 1))) (.m (.v 7) (.m (.m (.v 6) (.v 6)) (.v 6)))) (.m (.v 4) (.m (.v 6) (.v 6)))) (.m (.m (.n (-1)) (.v 6)) (.v 1))) (.m (.m (.n (-1)) (.v 7)) (.v 5))) (.m (.m (.n (-1)) (.v 0)) (.v 4))) (.m (.m (.n (-1)) (.v 2)) (.v 4))) (.m (.m (.n (-1)) (.v 2)) (.m (.v 6) (.v 6)))) (.m (.m (.n 2) (.v 0)) (.v 2))) (.m (.m (.m (.n (-1)) (.v 6)) (.v 7)) (.v 2))) (.m (.m (.m (.n (-2)) (.v 6)) (.v 7)) (.v 0))) (.s (.v 13) (.s (.m (.v 7) (.s (.v 2) (.v 12))) (.v 3))))) (.m (.a (.a (.a (.a (.a (.a (.a (.a (.a (.a (.a (.a (.a (.a (.a (.a (.a (.a (.a (.a (.a (.a (.a (.a (.a (.a (.a (.a (.m (.v 6) (.m (.v 2) (.v 2))) (.m (.v 0) (.v 1))) (.m (.v 0) (.m (.m (.v 6) (.v 6)) (.v 6)))) (.m (.v 2) (.v 5))) (.m (.v 4) (.v 5))) (.m (.v 12) (.v 1))) (.m (.v 12) (.m (.m (.v 6) (.v 6)) (.v 6)))) (.m (.m (.n (-1)) (.v 7)) (.m (.v 0) (.v 0)))) (.m (.m (.n (-1)) (.v 7)) (.m (.v 2) (.v 2)))) (.m (.m (.n (-1)) (.v 7)) (.m (.v 4) (.v 4)))) (.m (.m (.n (-1)) (.v 0)) (.v 5))) (.m (.m (.n (-1)) (.v 2)) (.v 1))) (.m (.m (.n (-1)) (.v 2)) (.m (.m (.v 6) (.v 6)) (.v 6)))) (.m (.m (.n (-1)) (.v 4)) (.v 1))) (.m (.m (.n (-1)) (.v 4)) (.m (.m (.v 6) (.v 6)) (.v 6)))) (.m (.m (.n (-1)) (.v 12)) (.v 5))) (.m (.m (.n (-2)) (.v 6)) (.m (.v 0) (.v 0)))) (.m (.m (.v 6) (.v 7)) (.v 1))) (.m (.m (.v 6) (.v 0)) (.v 2))) (.m (.m (.v 6) (.v 2)) (.v 4))) (.m (.m (.v 7) (.v 0)) (.v 4))) (.m (.m (.v 7) (.v 2)) (.v 4))) (.m (.m (.v 7) (.v 2)) (.m (.v 6) (.v 6)))) (.m (.m (.m (.n (-1)) (.v 6)) (.v 7)) (.v 5))) (.m (.m (.m (.n (-1)) (.v 6)) (.v 2)) (.v 12))) (.m (.m (.m (.n (-1)) (.v 7)) (.v 4)) (.m (.v 6) (.v 6)))) (.m (.m (.m (.n (-2)) (.v 6)) (.v 0)) (.v 12))) (.m (.m (.m (.n (-2)) (.v 7)) (.v 0)) (.v 2))) (.m (.m (.m (.n 2) (.v 6)) (.v 0)) (.v 4))) (.s (.v 12) (.s (.s (.m (.v 7) (.v 7)) (.v 2)) (.v 4))))) (.m (.a (.a (.a (.a (.a (.a (.a (.a (.a (.a (.a (.a (.a (.a (.a (.a (.a (.m (.n 2) (.m (.v 0) (.v 0))) (.m (.n 2) (.m (.v 2) (.v 2)))) (.m (.n 2) (.m (.v 4) (.v 4)))) (.m (.v 6) (.v 5))) (.m (.v 7) (.v 1))) (.m (.v 0) (.v 2))) (.m (.v 0) (.m (.v 7) (.v 7)))) (.m (.v 2) (.v 4))) (.m (.v 4) (.m (.v 6) (.v 6)))) (.m (.m (.n (-1)) (.v 6)) (.v 1))) (.m (.m (.n (-1)) (.v 7)) (.v 5))) (.m (.m (.n (-1)) (.v 0)) (.m (.v 6) (.v 6)))) (.m (.m (.n (-1)) (.v 4)) (.m (.v 7) (.v 7)))) (.m (.m (.n (-1)) (.m (.v 6) (.v 6))) (.m (.v 7) (.v 7)))) (.m (.m (.n (-2)) (.v 0)) (.v 4))) (.m (.m (.m (.n (-1)) (.v 6)) (.v 7)) (.v 0))) (.m (.m (.m (.n (-1)) (.v 6)) (.v 7)) (.v 2))) (.m (.m (.m (.n (-1)) (.v 6)) (.v 7)) (.v 4))) (.s (.s (.v 1) (.v 3)) (.m (.v 6) (.s (.v 0) (.v 2)))))) (.m (.a (.a (.a (.a (.a (.a (.a (.a (.a (.a (.a (.a (.a (.m (.v 0) (.v 0)) (.m (.v 2) (.v 2))) (.m (.v 4) (.v 4))) (.m (.v 0) (.m (.v 7) (.v 7)))) (.m (.v 2) (.m (.v 6) (.v 6)))) (.m (.m (.n (-1)) (.v 7)) (.m (.m (.v 6) (.v 6)) (.v 6)))) (.m (.m (.n (-1)) (.v 0)) (.v 2))) (.m (.m (.n (-1)) (.v 0)) (.v 4))) (.m (.m (.n (-1)) (.v 0)) (.m (.v 6) (.v 6)))) (.m (.m (.n (-1)) (.v 4)) (.m (.v 7) (.v 7)))) (.m (.m (.n (-1)) (.m (.v 6) (.v 6))) (.m (.v 7) (.v 7)))) (.m (.m (.n 2) (.v 2)) (.v 4))) (.m (.m (.v 6) (.v 7)) (.v 0))) (.m (.m (.m (.n (-1)) (.v 6)) (.v 7)) (.v 4))) (.s (.s (.v 3) (.v 5)) (.m (.v 7) (.s (.v 2) (.v 4)))))) (.m (.a (.a (.a (.m (.m (.v 7) (.v 7)) (.v 7)) (.m (.v 6) (.m (.v 7) (.v 7)))) (.m (.v 7) (.m (.v 6) (.v 6)))) (.m (.m (.n (-3)) (.v 7)) (.v 2))) (.s (.m (.v 6) (.a (.v 1) (.v 3))) (.a (.a (.m (.v 0) (.v 0)) (.m (.v 0) (.v 2))) (.m (.v 2) (.v 2)))))) (.m (.a (.a (.a (.m (.n (-1)) (.m (.m (.v 6) (.v 6)) (.v 6))) (.m (.m (.n (-1)) (.v 6)) (.m (.v 7) (.v 7)))) (.m (.m (.n (-1)) (.v 7)) (.m (.v 6) (.v 6)))) (.m (.m (.n 3) (.v 6)) (.v 2))) (.s (.m (.v 7) (.a (.v 3) (.v 5))) (.a (.a (.m (.v 2) (.v 2)) (.m (.v 2) (.v 4))) (.m (.v 4) (.v 4))))))) rfl rfl (by decide +kernel)
 rw[e]
 exact (F.za (F.za (F.za (F.za (F.za (F.za (F.za (F.za (F.za (F.zm' _ ccn) (F.zm' _ cck)) (F.zm' _ kD)) (F.zm' _ hD)) (F.zm' _ kE)) (F.zm' _ hE)) (F.zm' _ c3l)) (F.zm' _ c3m)) (F.zm' _ ccl)) (F.zm' _ ccm))
theorem q_A {x1 y1 x2 y2 l n xD yD:α}(kD:F.Z (F.sub yD (F.sub (F.mul l (F.sub x1 xD)) y1)))(hD:F.Z (F.sub xD (F.sub (F.sub (F.mul l l) x1) x2)))(c3l:F.Z (F.sub (F.sub y1 y2) (F.mul l (F.sub x1 x2))))(ccl:F.Z (F.sub (F.mul l (F.add y1 y2)) (F.add (F.add (F.mul x1 x1) (F.mul x1 x2)) (F.mul x2 x2)))):F.Z (F.add (F.sub (F.sub (F.add (F.add (F.mul x1 x1) (F.mul x1 xD)) (F.mul xD xD)) (F.mul (F.add n l) y1)) (F.mul (F.sub n l) yD)) (F.mul (F.mul l n) (F.sub x1 xD))):=by
 have e:(F.add (F.sub (F.sub (F.add (F.add (F.mul x1 x1) (F.mul x1 xD)) (F.mul xD xD)) (F.mul (F.add n l) y1)) (F.mul (F.sub n l) yD)) (F.mul (F.mul l n) (F.sub x1 xD)))=(F.add (F.add (F.add (F.mul (F.add l (F.mul (F.int (-1)) n)) (F.sub yD (F.sub (F.mul l (F.sub x1 xD)) y1))) (F.mul (F.add xD (F.mul (F.int (-1)) x2)) (F.sub xD (F.sub (F.sub (F.mul l l) x1) x2)))) (F.mul (F.mul (F.int (-1)) l) (F.sub (F.sub y1 y2) (F.mul l (F.sub x1 x2))))) (F.mul (F.int (-1)) (F.sub (F.mul l (F.add y1 y2)) (F.add (F.add (F.mul x1 x1) (F.mul x1 x2)) (F.mul x2 x2))))):=F.eq_of (fun k_=>match k_ with|0=>x1|1=>y1|2=>x2|3=>y2|4=>x1|5=>x1|6=>l|7=>x1|8=>n|9=>x1|10=>xD|11=>yD|12=>x1|13=>x1|14=>x1|15=>x1|16=>x1|17=>x1|18=>x1|19=>x1|20=>x1|21=>x1|22=>x1|23=>x1|_=>x1) (e:=(.a (.s (.s (.a (.a (.m (.v 0) (.v 0)) (.m (.v 0) (.v 10))) (.m (.v 10) (.v 10))) (.m (.a (.v 8) (.v 6)) (.v 1))) (.m (.s (.v 8) (.v 6)) (.v 11))) (.m (.m (.v 6) (.v 8)) (.s (.v 0) (.v 10))))) (f:=(.a (.a (.a (.m (.a (.v 6) (.m (.n (-1)) (.v 8))) (.s (.v 11) (.s (.m (.v 6) (.s (.v 0) (.v 10))) (.v 1)))) (.m (.a (.v 10) (.m (.n (-1)) (.v 2))) (.s (.v 10) (.s (.s (.m (.v 6) (.v 6)) (.v 0)) (.v 2))))) (.m (.m (.n (-1)) (.v 6)) (.s (.s (.v 1) (.v 3)) (.m (.v 6) (.s (.v 0) (.v 2)))))) (.m (.n (-1)) (.s (.m (.v 6) (.a (.v 1) (.v 3))) (.a (.a (.m (.v 0) (.v 0)) (.m (.v 0) (.v 2))) (.m (.v 2) (.v 2))))))) rfl rfl (by decide +kernel)
 rw[e]
 exact (F.za (F.za (F.za (F.zm' _ kD) (F.zm' _ hD)) (F.zm' _ c3l)) (F.zm' _ ccl))
theorem q_B {x1 y1 x2 y2 l n xD yD:α}(kD:F.Z (F.sub yD (F.sub (F.mul l (F.sub x1 xD)) y1)))(hD:F.Z (F.sub xD (F.sub (F.sub (F.mul l l) x1) x2)))(c3l:F.Z (F.sub (F.sub y1 y2) (F.mul l (F.sub x1 x2))))(ccl:F.Z (F.sub (F.mul l (F.add y1 y2)) (F.add (F.add (F.mul x1 x1) (F.mul x1 x2)) (F.mul x2 x2)))):F.Z (F.add (F.sub (F.sub (F.add (F.add (F.mul x2 x2) (F.mul x2 xD)) (F.mul xD xD)) (F.mul (F.add n l) y2)) (F.mul (F.sub n l) yD)) (F.mul (F.mul l n) (F.sub x2 xD))):=by
 have e:(F.add (F.sub (F.sub (F.add (F.add (F.mul x2 x2) (F.mul x2 xD)) (F.mul xD xD)) (F.mul (F.add n l) y2)) (F.mul (F.sub n l) yD)) (F.mul (F.mul l n) (F.sub x2 xD)))=(F.add (F.add (F.add (F.mul (F.add l (F.mul (F.int (-1)) n)) (F.sub yD (F.sub (F.mul l (F.sub x1 xD)) y1))) (F.mul (F.add xD (F.mul (F.int (-1)) x1)) (F.sub xD (F.sub (F.sub (F.mul l l) x1) x2)))) (F.mul n (F.sub (F.sub y1 y2) (F.mul l (F.sub x1 x2))))) (F.mul (F.int (-1)) (F.sub (F.mul l (F.add y1 y2)) (F.add (F.add (F.mul x1 x1) (F.mul x1 x2)) (F.mul x2 x2))))):=F.eq_of (fun k_=>match k_ with|0=>x1|1=>y1|2=>x2|3=>y2|4=>x1|5=>x1|6=>l|7=>x1|8=>n|9=>x1|10=>xD|11=>yD|12=>x1|13=>x1|14=>x1|15=>x1|16=>x1|17=>x1|18=>x1|19=>x1|20=>x1|21=>x1|22=>x1|23=>x1|_=>x1) (e:=(.a (.s (.s (.a (.a (.m (.v 2) (.v 2)) (.m (.v 2) (.v 10))) (.m (.v 10) (.v 10))) (.m (.a (.v 8) (.v 6)) (.v 3))) (.m (.s (.v 8) (.v 6)) (.v 11))) (.m (.m (.v 6) (.v 8)) (.s (.v 2) (.v 10))))) (f:=(.a (.a (.a (.m (.a (.v 6) (.m (.n (-1)) (.v 8))) (.s (.v 11) (.s (.m (.v 6) (.s (.v 0) (.v 10))) (.v 1)))) (.m (.a (.v 10) (.m (.n (-1)) (.v 0))) (.s (.v 10) (.s (.s (.m (.v 6) (.v 6)) (.v 0)) (.v 2))))) (.m (.v 8) (.s (.s (.v 1) (.v 3)) (.m (.v 6) (.s (.v 0) (.v 2)))))) (.m (.n (-1)) (.s (.m (.v 6) (.a (.v 1) (.v 3))) (.a (.a (.m (.v 0) (.v 0)) (.m (.v 0) (.v 2))) (.m (.v 2) (.v 2))))))) rfl rfl (by decide +kernel)
 rw[e]
 exact (F.za (F.za (F.za (F.zm' _ kD) (F.zm' _ hD)) (F.zm' _ c3l)) (F.zm' _ ccl))
theorem q_C {x3 y3 l n xD yD:α}(c3n:F.Z (F.sub (F.sub yD y3) (F.mul n (F.sub xD x3))))(ccn:F.Z (F.sub (F.mul n (F.add yD y3)) (F.add (F.add (F.mul xD xD) (F.mul xD x3)) (F.mul x3 x3)))):F.Z (F.add (F.sub (F.sub (F.add (F.add (F.mul x3 x3) (F.mul x3 xD)) (F.mul xD xD)) (F.mul (F.add n l) y3)) (F.mul (F.sub n l) yD)) (F.mul (F.mul l n) (F.sub x3 xD))):=by
 have e:(F.add (F.sub (F.sub (F.add (F.add (F.mul x3 x3) (F.mul x3 xD)) (F.mul xD xD)) (F.mul (F.add n l) y3)) (F.mul (F.sub n l) yD)) (F.mul (F.mul l n) (F.sub x3 xD)))=(F.add (F.mul l (F.sub (F.sub yD y3) (F.mul n (F.sub xD x3)))) (F.mul (F.int (-1)) (F.sub (F.mul n (F.add yD y3)) (F.add (F.add (F.mul xD xD) (F.mul xD x3)) (F.mul x3 x3))))):=F.eq_of (fun k_=>match k_ with|0=>x3|1=>x3|2=>x3|3=>x3|4=>x3|5=>y3|6=>l|7=>x3|8=>n|9=>x3|10=>xD|11=>yD|12=>x3|13=>x3|14=>x3|15=>x3|16=>x3|17=>x3|18=>x3|19=>x3|20=>x3|21=>x3|22=>x3|23=>x3|_=>x3) (e:=(.a (.s (.s (.a (.a (.m (.v 4) (.v 4)) (.m (.v 4) (.v 10))) (.m (.v 10) (.v 10))) (.m (.a (.v 8) (.v 6)) (.v 5))) (.m (.s (.v 8) (.v 6)) (.v 11))) (.m (.m (.v 6) (.v 8)) (.s (.v 4) (.v 10))))) (f:=(.a (.m (.v 6) (.s (.s (.v 11) (.v 5)) (.m (.v 8) (.s (.v 10) (.v 4))))) (.m (.n (-1)) (.s (.m (.v 8) (.a (.v 11) (.v 5))) (.a (.a (.m (.v 10) (.v 10)) (.m (.v 10) (.v 4))) (.m (.v 4) (.v 4))))))) rfl rfl (by decide +kernel)
 rw[e]
 exact (F.za (F.zm' _ c3n) (F.zm' _ ccn))
theorem ln_two {x1 y1 l n xD yD X Y b:α}(kD:F.Z (F.sub yD (F.sub (F.mul l (F.sub x1 xD)) y1)))(hX:F.Z (F.sub (F.mul Y Y) (F.add (F.mul (F.mul X X) X) b)))(hDc:F.Z (F.sub (F.mul yD yD) (F.add (F.mul (F.mul xD xD) xD) b))):F.Z (F.sub (F.mul (F.sub (F.sub Y y1) (F.mul l (F.sub X x1))) (F.sub (F.sub Y yD) (F.mul n (F.sub X xD)))) (F.mul (F.sub X xD) (F.add (F.sub (F.sub (F.add (F.add (F.mul X X) (F.mul X xD)) (F.mul xD xD)) (F.mul (F.add n l) Y)) (F.mul (F.sub n l) yD)) (F.mul (F.mul l n) (F.sub X xD))))):=by
 have e:(F.sub (F.mul (F.sub (F.sub Y y1) (F.mul l (F.sub X x1))) (F.sub (F.sub Y yD) (F.mul n (F.sub X xD)))) (F.mul (F.sub X xD) (F.add (F.sub (F.sub (F.add (F.add (F.mul X X) (F.mul X xD)) (F.mul xD xD)) (F.mul (F.add n l) Y)) (F.mul (F.sub n l) yD)) (F.mul (F.mul l n) (F.sub X xD)))))=(F.add (F.add (F.mul (F.add (F.add (F.add yD (F.mul (F.int (-1)) Y)) (F.mul X n)) (F.mul (F.mul (F.int (-1)) n) xD)) (F.sub yD (F.sub (F.mul l (F.sub x1 xD)) y1))) (F.mul (F.int 1) (F.sub (F.mul Y Y) (F.add (F.mul (F.mul X X) X) b)))) (F.mul (F.int (-1)) (F.sub (F.mul yD yD) (F.add (F.mul (F.mul xD xD) xD) b)))):=F.eq_of (fun k_=>match k_ with|0=>x1|1=>y1|2=>x1|3=>x1|4=>x1|5=>x1|6=>l|7=>x1|8=>n|9=>x1|10=>xD|11=>yD|12=>x1|13=>x1|14=>X|15=>Y|16=>b|17=>x1|18=>x1|19=>x1|20=>x1|21=>x1|22=>x1|23=>x1|_=>x1) (e:=(.s (.m (.s (.s (.v 15) (.v 1)) (.m (.v 6) (.s (.v 14) (.v 0)))) (.s (.s (.v 15) (.v 11)) (.m (.v 8) (.s (.v 14) (.v 10))))) (.m (.s (.v 14) (.v 10)) (.a (.s (.s (.a (.a (.m (.v 14) (.v 14)) (.m (.v 14) (.v 10))) (.m (.v 10) (.v 10))) (.m (.a (.v 8) (.v 6)) (.v 15))) (.m (.s (.v 8) (.v 6)) (.v 11))) (.m (.m (.v 6) (.v 8)) (.s (.v 14) (.v 10))))))) (f:=(.a (.a (.m (.a (.a (.a (.v 11) (.m (.n (-1)) (.v 15))) (.m (.v 14) (.v 8))) (.m (.m (.n (-1)) (.v 8)) (.v 10))) (.s (.v 11) (.s (.m (.v 6) (.s (.v 0) (.v 10))) (.v 1)))) (.m (.n 1) (.s (.m (.v 15) (.v 15)) (.a (.m (.m (.v 14) (.v 14)) (.v 14)) (.v 16))))) (.m (.n (-1)) (.s (.m (.v 11) (.v 11)) (.a (.m (.m (.v 10) (.v 10)) (.v 10)) (.v 16)))))) rfl rfl (by decide +kernel)
 rw[e]
 exact (F.za (F.za (F.zm' _ kD) (F.zm' _ hX)) (F.zm' _ hDc))
def lnv (l x1 y1 X Y:α):α:=F.sub (F.sub Y y1) (F.mul l (F.sub X x1))
def qv (l n xD yD X Y:α):α:=F.add (F.sub (F.sub (F.add (F.add (F.mul X X) (F.mul X xD)) (F.mul xD xD)) (F.mul (F.add n l) Y)) (F.mul (F.sub n l) yD)) (F.mul (F.mul l n) (F.sub X xD))
theorem slopes {l m n k x1 y1 x2 y2 x3 y3 xD yD xE yE:α}(hl:Slope F l x1 y1 x2 y2)(hm:Slope F m x2 y2 x3 y3)(hD:F.eq xD (Xs F l x1 x2))(kD:F.eq yD (Ys F l x1 y1 xD))(hE:F.eq xE (Xs F m x2 x3))(kE:F.eq yE (Ys F m x2 y2 xE))
  (hn:Slope F n xD yD x3 y3) (hk:Slope F k x1 y1 xE yE) (on:¬Opp F xD yD x3 y3) (ok:¬Opp F x1 y1 xE yE):F.eq (F.add l n) (F.add m k):=by
 have key:∀{d1 d2:α},¬F.Z d1→¬F.Z d2→F.Z (F.mul (F.sub (F.add l n) (F.add m k)) (F.mul d1 d2))→F.eq (F.add l n) (F.add m k):=fun {d1 d2} h1 h2 h=>by
  rcases F.zd h with h|h
  ·exact h
  ·rcases F.zd h with h|h
   ·exact absurd h h1
   ·exact absurd h h2
 by_cases h1:F.Z (F.sub xD x3)<;>by_cases h2:F.Z (F.sub x1 xE)
 ·exact key (fun h=>on ⟨h1,h⟩) (fun h=>ok ⟨h2,h⟩) (sl_tt F hn.cc hk.cc kD hD kE hE hl.c3 hm.c3 hl.cc hm.cc)
 ·exact key (fun h=>on ⟨h1,h⟩) h2 (sl_tc F hn.cc hk.c3 kD hD kE hE hl.c3 hm.c3 hl.cc hm.cc)
 ·exact key h1 (fun h=>ok ⟨h2,h⟩) (sl_ct F hn.c3 hk.cc kD hD kE hE hl.c3 hm.c3 hl.cc hm.cc)
 ·exact key h1 h2 (sl_cc F hn.c3 hk.c3 kD hD kE hE hl.c3 hm.c3 hl.cc hm.cc)
theorem q_d {l m n k xD yD xE yE X Y:α}(hs:F.Z (F.sub (F.add l n) (F.add m k))):F.Z (F.sub (F.sub (F.add (F.sub (F.sub (F.add (F.add (F.mul X X) (F.mul X xD)) (F.mul xD xD)) (F.mul (F.add n l) Y)) (F.mul (F.sub n l) yD)) (F.mul (F.mul l n) (F.sub X xD))) (F.add (F.sub (F.sub (F.add (F.add (F.mul X X) (F.mul X xE)) (F.mul xE xE)) (F.mul (F.add k m) Y)) (F.mul (F.sub k m) yE)) (F.mul (F.mul m k) (F.sub X xE)))) (F.add (F.mul (F.sub (F.add xD (F.mul l n)) (F.add xE (F.mul m k))) X) (F.sub (F.sub (F.sub (F.mul xD xD) (F.mul (F.sub n l) yD)) (F.mul (F.mul l n) xD)) (F.sub (F.sub (F.mul xE xE) (F.mul (F.sub k m) yE)) (F.mul (F.mul m k) xE))))):=by
 have e:(F.sub (F.sub (F.add (F.sub (F.sub (F.add (F.add (F.mul X X) (F.mul X xD)) (F.mul xD xD)) (F.mul (F.add n l) Y)) (F.mul (F.sub n l) yD)) (F.mul (F.mul l n) (F.sub X xD))) (F.add (F.sub (F.sub (F.add (F.add (F.mul X X) (F.mul X xE)) (F.mul xE xE)) (F.mul (F.add k m) Y)) (F.mul (F.sub k m) yE)) (F.mul (F.mul m k) (F.sub X xE)))) (F.add (F.mul (F.sub (F.add xD (F.mul l n)) (F.add xE (F.mul m k))) X) (F.sub (F.sub (F.sub (F.mul xD xD) (F.mul (F.sub n l) yD)) (F.mul (F.mul l n) xD)) (F.sub (F.sub (F.mul xE xE) (F.mul (F.sub k m) yE)) (F.mul (F.mul m k) xE)))))=(F.mul (F.mul (F.int (-1)) Y) (F.sub (F.add l n) (F.add m k))):=F.eq_of (fun k_=>match k_ with|0=>l|1=>l|2=>l|3=>l|4=>l|5=>l|6=>l|7=>m|8=>n|9=>k|10=>xD|11=>yD|12=>xE|13=>yE|14=>X|15=>Y|16=>l|17=>l|18=>l|19=>l|20=>l|21=>l|22=>l|23=>l|_=>l) (e:=(.s (.s (.a (.s (.s (.a (.a (.m (.v 14) (.v 14)) (.m (.v 14) (.v 10))) (.m (.v 10) (.v 10))) (.m (.a (.v 8) (.v 6)) (.v 15))) (.m (.s (.v 8) (.v 6)) (.v 11))) (.m (.m (.v 6) (.v 8)) (.s (.v 14) (.v 10)))) (.a (.s (.s (.a (.a (.m (.v 14) (.v 14)) (.m (.v 14) (.v 12))) (.m (.v 12) (.v 12))) (.m (.a (.v 9) (.v 7)) (.v 15))) (.m (.s (.v 9) (.v 7)) (.v 13))) (.m (.m (.v 7) (.v 9)) (.s (.v 14) (.v 12))))) (.a (.m (.s (.a (.v 10) (.m (.v 6) (.v 8))) (.a (.v 12) (.m (.v 7) (.v 9)))) (.v 14)) (.s (.s (.s (.m (.v 10) (.v 10)) (.m (.s (.v 8) (.v 6)) (.v 11))) (.m (.m (.v 6) (.v 8)) (.v 10))) (.s (.s (.m (.v 12) (.v 12)) (.m (.s (.v 9) (.v 7)) (.v 13))) (.m (.m (.v 7) (.v 9)) (.v 12))))))) (f:=(.m (.m (.n (-1)) (.v 15)) (.s (.a (.v 6) (.v 8)) (.a (.v 7) (.v 9))))) rfl rfl (by decide +kernel)
 rw[e]
 exact (F.zm' _ hs)
theorem q_at {l m n k xD yD xE yE X Y:α}(hd:F.Z (F.sub (F.sub (F.add (F.sub (F.sub (F.add (F.add (F.mul X X) (F.mul X xD)) (F.mul xD xD)) (F.mul (F.add n l) Y)) (F.mul (F.sub n l) yD)) (F.mul (F.mul l n) (F.sub X xD))) (F.add (F.sub (F.sub (F.add (F.add (F.mul X X) (F.mul X xE)) (F.mul xE xE)) (F.mul (F.add k m) Y)) (F.mul (F.sub k m) yE)) (F.mul (F.mul m k) (F.sub X xE)))) (F.add (F.mul (F.sub (F.add xD (F.mul l n)) (F.add xE (F.mul m k))) X) (F.sub (F.sub (F.sub (F.mul xD xD) (F.mul (F.sub n l) yD)) (F.mul (F.mul l n) xD)) (F.sub (F.sub (F.mul xE xE) (F.mul (F.sub k m) yE)) (F.mul (F.mul m k) xE))))))(h1:F.Z (F.add (F.sub (F.sub (F.add (F.add (F.mul X X) (F.mul X xD)) (F.mul xD xD)) (F.mul (F.add n l) Y)) (F.mul (F.sub n l) yD)) (F.mul (F.mul l n) (F.sub X xD))))(h2:F.Z (F.add (F.sub (F.sub (F.add (F.add (F.mul X X) (F.mul X xE)) (F.mul xE xE)) (F.mul (F.add k m) Y)) (F.mul (F.sub k m) yE)) (F.mul (F.mul m k) (F.sub X xE)))):F.Z (F.add (F.mul (F.sub (F.add xD (F.mul l n)) (F.add xE (F.mul m k))) X) (F.sub (F.sub (F.sub (F.mul xD xD) (F.mul (F.sub n l) yD)) (F.mul (F.mul l n) xD)) (F.sub (F.sub (F.mul xE xE) (F.mul (F.sub k m) yE)) (F.mul (F.mul m k) xE)))):=by
 have e:(F.add (F.mul (F.sub (F.add xD (F.mul l n)) (F.add xE (F.mul m k))) X) (F.sub (F.sub (F.sub (F.mul xD xD) (F.mul (F.sub n l) yD)) (F.mul (F.mul l n) xD)) (F.sub (F.sub (F.mul xE xE) (F.mul (F.sub k m) yE)) (F.mul (F.mul m k) xE))))=(F.add (F.add (F.mul (F.int (-1)) (F.sub (F.sub (F.add (F.sub (F.sub (F.add (F.add (F.mul X X) (F.mul X xD)) (F.mul xD xD)) (F.mul (F.add n l) Y)) (F.mul (F.sub n l) yD)) (F.mul (F.mul l n) (F.sub X xD))) (F.add (F.sub (F.sub (F.add (F.add (F.mul X X) (F.mul X xE)) (F.mul xE xE)) (F.mul (F.add k m) Y)) (F.mul (F.sub k m) yE)) (F.mul (F.mul m k) (F.sub X xE)))) (F.add (F.mul (F.sub (F.add xD (F.mul l n)) (F.add xE (F.mul m k))) X) (F.sub (F.sub (F.sub (F.mul xD xD) (F.mul (F.sub n l) yD)) (F.mul (F.mul l n) xD)) (F.sub (F.sub (F.mul xE xE) (F.mul (F.sub k m) yE)) (F.mul (F.mul m k) xE)))))) (F.mul (F.int 1) (F.add (F.sub (F.sub (F.add (F.add (F.mul X X) (F.mul X xD)) (F.mul xD xD)) (F.mul (F.add n l) Y)) (F.mul (F.sub n l) yD)) (F.mul (F.mul l n) (F.sub X xD))))) (F.mul (F.int (-1)) (F.add (F.sub (F.sub (F.add (F.add (F.mul X X) (F.mul X xE)) (F.mul xE xE)) (F.mul (F.add k m) Y)) (F.mul (F.sub k m) yE)) (F.mul (F.mul m k) (F.sub X xE))))):=F.eq_of (fun k_=>match k_ with|0=>l|1=>l|2=>l|3=>l|4=>l|5=>l|6=>l|7=>m|8=>n|9=>k|10=>xD|11=>yD|12=>xE|13=>yE|14=>X|15=>Y|16=>l|17=>l|18=>l|19=>l|20=>l|21=>l|22=>l|23=>l|_=>l) (e:=(.a (.m (.s (.a (.v 10) (.m (.v 6) (.v 8))) (.a (.v 12) (.m (.v 7) (.v 9)))) (.v 14)) (.s (.s (.s (.m (.v 10) (.v 10)) (.m (.s (.v 8) (.v 6)) (.v 11))) (.m (.m (.v 6) (.v 8)) (.v 10))) (.s (.s (.m (.v 12) (.v 12)) (.m (.s (.v 9) (.v 7)) (.v 13))) (.m (.m (.v 7) (.v 9)) (.v 12)))))) (f:=(.a (.a (.m (.n (-1)) (.s (.s (.a (.s (.s (.a (.a (.m (.v 14) (.v 14)) (.m (.v 14) (.v 10))) (.m (.v 10) (.v 10))) (.m (.a (.v 8) (.v 6)) (.v 15))) (.m (.s (.v 8) (.v 6)) (.v 11))) (.m (.m (.v 6) (.v 8)) (.s (.v 14) (.v 10)))) (.a (.s (.s (.a (.a (.m (.v 14) (.v 14)) (.m (.v 14) (.v 12))) (.m (.v 12) (.v 12))) (.m (.a (.v 9) (.v 7)) (.v 15))) (.m (.s (.v 9) (.v 7)) (.v 13))) (.m (.m (.v 7) (.v 9)) (.s (.v 14) (.v 12))))) (.a (.m (.s (.a (.v 10) (.m (.v 6) (.v 8))) (.a (.v 12) (.m (.v 7) (.v 9)))) (.v 14)) (.s (.s (.s (.m (.v 10) (.v 10)) (.m (.s (.v 8) (.v 6)) (.v 11))) (.m (.m (.v 6) (.v 8)) (.v 10))) (.s (.s (.m (.v 12) (.v 12)) (.m (.s (.v 9) (.v 7)) (.v 13))) (.m (.m (.v 7) (.v 9)) (.v 12))))))) (.m (.n 1) (.a (.s (.s (.a (.a (.m (.v 14) (.v 14)) (.m (.v 14) (.v 10))) (.m (.v 10) (.v 10))) (.m (.a (.v 8) (.v 6)) (.v 15))) (.m (.s (.v 8) (.v 6)) (.v 11))) (.m (.m (.v 6) (.v 8)) (.s (.v 14) (.v 10)))))) (.m (.n (-1)) (.a (.s (.s (.a (.a (.m (.v 14) (.v 14)) (.m (.v 14) (.v 12))) (.m (.v 12) (.v 12))) (.m (.a (.v 9) (.v 7)) (.v 15))) (.m (.s (.v 9) (.v 7)) (.v 13))) (.m (.m (.v 7) (.v 9)) (.s (.v 14) (.v 12))))))) rfl rfl (by decide +kernel)
 rw[e]
 exact (F.za (F.za (F.zm' _ hd) (F.zm' _ h1)) (F.zm' _ h2))
theorem q_eq {l m n k xD yD xE yE X Y:α}(hd:F.Z (F.sub (F.sub (F.add (F.sub (F.sub (F.add (F.add (F.mul X X) (F.mul X xD)) (F.mul xD xD)) (F.mul (F.add n l) Y)) (F.mul (F.sub n l) yD)) (F.mul (F.mul l n) (F.sub X xD))) (F.add (F.sub (F.sub (F.add (F.add (F.mul X X) (F.mul X xE)) (F.mul xE xE)) (F.mul (F.add k m) Y)) (F.mul (F.sub k m) yE)) (F.mul (F.mul m k) (F.sub X xE)))) (F.add (F.mul (F.sub (F.add xD (F.mul l n)) (F.add xE (F.mul m k))) X) (F.sub (F.sub (F.sub (F.mul xD xD) (F.mul (F.sub n l) yD)) (F.mul (F.mul l n) xD)) (F.sub (F.sub (F.mul xE xE) (F.mul (F.sub k m) yE)) (F.mul (F.mul m k) xE))))))(h:F.Z (F.add (F.mul (F.sub (F.add xD (F.mul l n)) (F.add xE (F.mul m k))) X) (F.sub (F.sub (F.sub (F.mul xD xD) (F.mul (F.sub n l) yD)) (F.mul (F.mul l n) xD)) (F.sub (F.sub (F.mul xE xE) (F.mul (F.sub k m) yE)) (F.mul (F.mul m k) xE))))):F.Z (F.sub (F.add (F.sub (F.sub (F.add (F.add (F.mul X X) (F.mul X xD)) (F.mul xD xD)) (F.mul (F.add n l) Y)) (F.mul (F.sub n l) yD)) (F.mul (F.mul l n) (F.sub X xD))) (F.add (F.sub (F.sub (F.add (F.add (F.mul X X) (F.mul X xE)) (F.mul xE xE)) (F.mul (F.add k m) Y)) (F.mul (F.sub k m) yE)) (F.mul (F.mul m k) (F.sub X xE)))):=by
 have e:(F.sub (F.add (F.sub (F.sub (F.add (F.add (F.mul X X) (F.mul X xD)) (F.mul xD xD)) (F.mul (F.add n l) Y)) (F.mul (F.sub n l) yD)) (F.mul (F.mul l n) (F.sub X xD))) (F.add (F.sub (F.sub (F.add (F.add (F.mul X X) (F.mul X xE)) (F.mul xE xE)) (F.mul (F.add k m) Y)) (F.mul (F.sub k m) yE)) (F.mul (F.mul m k) (F.sub X xE))))=(F.add (F.mul (F.int 1) (F.sub (F.sub (F.add (F.sub (F.sub (F.add (F.add (F.mul X X) (F.mul X xD)) (F.mul xD xD)) (F.mul (F.add n l) Y)) (F.mul (F.sub n l) yD)) (F.mul (F.mul l n) (F.sub X xD))) (F.add (F.sub (F.sub (F.add (F.add (F.mul X X) (F.mul X xE)) (F.mul xE xE)) (F.mul (F.add k m) Y)) (F.mul (F.sub k m) yE)) (F.mul (F.mul m k) (F.sub X xE)))) (F.add (F.mul (F.sub (F.add xD (F.mul l n)) (F.add xE (F.mul m k))) X) (F.sub (F.sub (F.sub (F.mul xD xD) (F.mul (F.sub n l) yD)) (F.mul (F.mul l n) xD)) (F.sub (F.sub (F.mul xE xE) (F.mul (F.sub k m) yE)) (F.mul (F.mul m k) xE)))))) (F.mul (F.int 1) (F.add (F.mul (F.sub (F.add xD (F.mul l n)) (F.add xE (F.mul m k))) X) (F.sub (F.sub (F.sub (F.mul xD xD) (F.mul (F.sub n l) yD)) (F.mul (F.mul l n) xD)) (F.sub (F.sub (F.mul xE xE) (F.mul (F.sub k m) yE)) (F.mul (F.mul m k) xE)))))):=F.eq_of (fun k_=>match k_ with|0=>l|1=>l|2=>l|3=>l|4=>l|5=>l|6=>l|7=>m|8=>n|9=>k|10=>xD|11=>yD|12=>xE|13=>yE|14=>X|15=>Y|16=>l|17=>l|18=>l|19=>l|20=>l|21=>l|22=>l|23=>l|_=>l) (e:=(.s (.a (.s (.s (.a (.a (.m (.v 14) (.v 14)) (.m (.v 14) (.v 10))) (.m (.v 10) (.v 10))) (.m (.a (.v 8) (.v 6)) (.v 15))) (.m (.s (.v 8) (.v 6)) (.v 11))) (.m (.m (.v 6) (.v 8)) (.s (.v 14) (.v 10)))) (.a (.s (.s (.a (.a (.m (.v 14) (.v 14)) (.m (.v 14) (.v 12))) (.m (.v 12) (.v 12))) (.m (.a (.v 9) (.v 7)) (.v 15))) (.m (.s (.v 9) (.v 7)) (.v 13))) (.m (.m (.v 7) (.v 9)) (.s (.v 14) (.v 12)))))) (f:=(.a (.m (.n 1) (.s (.s (.a (.s (.s (.a (.a (.m (.v 14) (.v 14)) (.m (.v 14) (.v 10))) (.m (.v 10) (.v 10))) (.m (.a (.v 8) (.v 6)) (.v 15))) (.m (.s (.v 8) (.v 6)) (.v 11))) (.m (.m (.v 6) (.v 8)) (.s (.v 14) (.v 10)))) (.a (.s (.s (.a (.a (.m (.v 14) (.v 14)) (.m (.v 14) (.v 12))) (.m (.v 12) (.v 12))) (.m (.a (.v 9) (.v 7)) (.v 15))) (.m (.s (.v 9) (.v 7)) (.v 13))) (.m (.m (.v 7) (.v 9)) (.s (.v 14) (.v 12))))) (.a (.m (.s (.a (.v 10) (.m (.v 6) (.v 8))) (.a (.v 12) (.m (.v 7) (.v 9)))) (.v 14)) (.s (.s (.s (.m (.v 10) (.v 10)) (.m (.s (.v 8) (.v 6)) (.v 11))) (.m (.m (.v 6) (.v 8)) (.v 10))) (.s (.s (.m (.v 12) (.v 12)) (.m (.s (.v 9) (.v 7)) (.v 13))) (.m (.m (.v 7) (.v 9)) (.v 12))))))) (.m (.n 1) (.a (.m (.s (.a (.v 10) (.m (.v 6) (.v 8))) (.a (.v 12) (.m (.v 7) (.v 9)))) (.v 14)) (.s (.s (.s (.m (.v 10) (.v 10)) (.m (.s (.v 8) (.v 6)) (.v 11))) (.m (.m (.v 6) (.v 8)) (.v 10))) (.s (.s (.m (.v 12) (.v 12)) (.m (.s (.v 9) (.v 7)) (.v 13))) (.m (.m (.v 7) (.v 9)) (.v 12)))))))) rfl rfl (by decide +kernel)
 rw[e]
 exact (F.za (F.zm' _ hd) (F.zm' _ h))
theorem ax_a {x1 x2 b c:α}(h1:F.Z (F.add (F.mul b x1) c))(h2:F.Z (F.add (F.mul b x2) c)):F.Z (F.mul b (F.sub x1 x2)):=by
 have e:(F.mul b (F.sub x1 x2))=(F.add (F.mul (F.int 1) (F.add (F.mul b x1) c)) (F.mul (F.int (-1)) (F.add (F.mul b x2) c))):=F.eq_of (fun k_=>match k_ with|0=>x1|1=>x1|2=>x2|3=>x1|4=>x1|5=>x1|6=>x1|7=>x1|8=>x1|9=>x1|10=>x1|11=>x1|12=>x1|13=>x1|14=>x1|15=>x1|16=>b|17=>c|18=>x1|19=>x1|20=>x1|21=>x1|22=>x1|23=>x1|_=>x1) (e:=(.m (.v 16) (.s (.v 0) (.v 2)))) (f:=(.a (.m (.n 1) (.a (.m (.v 16) (.v 0)) (.v 17))) (.m (.n (-1)) (.a (.m (.v 16) (.v 2)) (.v 17))))) rfl rfl (by decide +kernel)
 rw[e]
 exact (F.za (F.zm' _ h1) (F.zm' _ h2))
theorem ax_e {x1 b c:α}(h1:F.Z (F.add (F.mul b x1) c))(ha:F.Z b):F.Z c:=by
 have e:c=(F.add (F.mul (F.int 1) (F.add (F.mul b x1) c)) (F.mul (F.mul (F.int (-1)) x1) b)):=F.eq_of (fun k_=>match k_ with|0=>x1|1=>x1|2=>x1|3=>x1|4=>x1|5=>x1|6=>x1|7=>x1|8=>x1|9=>x1|10=>x1|11=>x1|12=>x1|13=>x1|14=>x1|15=>x1|16=>b|17=>c|18=>x1|19=>x1|20=>x1|21=>x1|22=>x1|23=>x1|_=>x1) (e:=(.v 17)) (f:=(.a (.m (.n 1) (.a (.m (.v 16) (.v 0)) (.v 17))) (.m (.m (.n (-1)) (.v 0)) (.v 16)))) rfl rfl (by decide +kernel)
 rw[e]
 exact (F.za (F.zm' _ h1) (F.zm' _ ha))
theorem ax_x {X b c:α}(ha:F.Z b)(he:F.Z c):F.Z (F.add (F.mul b X) c):=by
 have e:(F.add (F.mul b X) c)=(F.add (F.mul X b) (F.mul (F.int 1) c)):=F.eq_of (fun k_=>match k_ with|0=>X|1=>X|2=>X|3=>X|4=>X|5=>X|6=>X|7=>X|8=>X|9=>X|10=>X|11=>X|12=>X|13=>X|14=>X|15=>X|16=>b|17=>c|18=>X|19=>X|20=>X|21=>X|22=>X|23=>X|_=>X) (e:=(.a (.m (.v 16) (.v 14)) (.v 17))) (f:=(.a (.m (.v 14) (.v 16)) (.m (.n 1) (.v 17)))) rfl rfl (by decide +kernel)
 rw[e]
 exact (F.za (F.zm' _ ha) (F.zm' _ he))
theorem k_mv {x1 y1 k xE yE X Y:α}(c3k:F.Z (F.sub (F.sub y1 yE) (F.mul k (F.sub x1 xE)))):F.Z (F.sub (F.sub (F.sub Y y1) (F.mul k (F.sub X x1))) (F.sub (F.sub Y yE) (F.mul k (F.sub X xE)))):=by
 have e:(F.sub (F.sub (F.sub Y y1) (F.mul k (F.sub X x1))) (F.sub (F.sub Y yE) (F.mul k (F.sub X xE))))=(F.mul (F.int (-1)) (F.sub (F.sub y1 yE) (F.mul k (F.sub x1 xE)))):=F.eq_of (fun k_=>match k_ with|0=>x1|1=>y1|2=>x1|3=>x1|4=>x1|5=>x1|6=>x1|7=>x1|8=>x1|9=>k|10=>x1|11=>x1|12=>xE|13=>yE|14=>X|15=>Y|16=>x1|17=>x1|18=>x1|19=>x1|20=>x1|21=>x1|22=>x1|23=>x1|_=>x1) (e:=(.s (.s (.s (.v 15) (.v 1)) (.m (.v 9) (.s (.v 14) (.v 0)))) (.s (.s (.v 15) (.v 13)) (.m (.v 9) (.s (.v 14) (.v 12)))))) (f:=(.m (.n (-1)) (.s (.s (.v 1) (.v 13)) (.m (.v 9) (.s (.v 0) (.v 12)))))) rfl rfl (by decide +kernel)
 rw[e]
 exact (F.zm' _ c3k)
theorem fin {c d u1 v1 u2 v2:α}(ha:F.Z (F.sub u1 (F.mul d u2)))(hb:F.Z (F.sub v1 (F.mul c v2)))(hq:F.Z (F.sub u2 v2)):F.Z (F.sub (F.mul u1 c) (F.mul v1 d)):=by
 have e:(F.sub (F.mul u1 c) (F.mul v1 d))=(F.add (F.add (F.mul c (F.sub u1 (F.mul d u2))) (F.mul (F.mul (F.int (-1)) d) (F.sub v1 (F.mul c v2)))) (F.mul (F.mul c d) (F.sub u2 v2))):=F.eq_of (fun k_=>match k_ with|0=>c|1=>c|2=>c|3=>c|4=>c|5=>c|6=>c|7=>c|8=>c|9=>c|10=>c|11=>c|12=>c|13=>c|14=>c|15=>c|16=>c|17=>c|18=>d|19=>u1|20=>v1|21=>u2|22=>v2|23=>c|_=>c) (e:=(.s (.m (.v 19) (.v 17)) (.m (.v 20) (.v 18)))) (f:=(.a (.a (.m (.v 17) (.s (.v 19) (.m (.v 18) (.v 21)))) (.m (.m (.n (-1)) (.v 18)) (.s (.v 20) (.m (.v 17) (.v 22))))) (.m (.m (.v 17) (.v 18)) (.s (.v 21) (.v 22))))) rfl rfl (by decide +kernel)
 rw[e]
 exact (F.za (F.za (F.zm' _ ha) (F.zm' _ hb)) (F.zm' _ hq))
theorem same_y {b x1 y1 x2 y2:α}(a:On F b x1 y1)(e:On F b x2 y2)(ho:¬Opp F x1 y1 x2 y2)(hx:F.Z (F.sub x1 x2)):F.eq y1 y2:=by
 rcases F.zd (slope_y F a e hx) with h|h
 ·exact h
 ·exact absurd ⟨hx,h⟩ ho
theorem cocyc {b l m n k x1 y1 x2 y2 x3 y3 xD yD xE yE X Y:α}(p1:On F b x1 y1)(p2:On F b x2 y2)(p3:On F b x3 y3)(pD:On F b xD yD)(pE:On F b xE yE)(hX:On F b X Y)
  (hl:Slope F l x1 y1 x2 y2) (hm:Slope F m x2 y2 x3 y3) (hD:F.eq xD (Xs F l x1 x2)) (kD:F.eq yD (Ys F l x1 y1 xD)) (hE:F.eq xE (Xs F m x2 x3)) (kE:F.eq yE (Ys F m x2 y2 xE))
  (hn:Slope F n xD yD x3 y3) (hk:Slope F k x1 y1 xE yE) (ol:¬Opp F x1 y1 x2 y2) (om:¬Opp F x2 y2 x3 y3) (on:¬Opp F xD yD x3 y3) (ok:¬Opp F x1 y1 xE yE) :
  F.eq (F.mul (F.mul (lnv F l x1 y1 X Y) (lnv F n xD yD X Y)) (F.sub X xE)) (F.mul (F.mul (lnv F m x2 y2 X Y) (lnv F k x1 y1 X Y)) (F.sub X xD)):=by
 have hs:=slopes F hl hm hD kD hE kE hn hk on ok
 have hq:F.eq (qv F l n xD yD X Y) (qv F m k xE yE X Y):=by
  have a1:=q_at F (q_d F (X:=x1) (Y:=y1) hs) (q_A F kD hD hl.c3 hl.cc) (q_C F (cm_3 F hk.c3) (cm_c F hk.cc))
  have a2:=q_at F (q_d F (X:=x2) (Y:=y2) hs) (q_B F kD hD hl.c3 hl.cc) (q_A F kE hE hm.c3 hm.cc)
  have a3:=q_at F (q_d F (X:=x3) (Y:=y3) hs) (q_C F hn.c3 hn.cc) (q_B F kE hE hm.c3 hm.cc)
  by_cases h12:F.Z (F.sub x1 x2)
  ·by_cases h23:F.Z (F.sub x2 x3)
   ·have e12:=same_y F p1 p2 ol h12
    have e23:=same_y F p2 p3 om h23
    have elm:F.eq l m:=slope_un F (slope_eq F (F.refl _) h12 e12 h23 e23 hl) hm om
    have eD:F.eq xD xE:=F.trans hD (F.trans (Xs_eq F elm h12 h23) (F.symm hE))
    have fD:F.eq yD yE:=F.trans kD (F.trans (Ys_eq F elm h12 e12 eD) (F.symm kE))
    have h13:F.eq x1 x3:=F.trans h12 h23
    have e13:F.eq y1 y3:=F.trans e12 e23
    have hk':Slope F k xD yD x3 y3:=slope_eq F (F.refl _) (F.symm eD) (F.symm fD) h13 e13 ⟨cm_3 F hk.c3,cm_c F hk.cc⟩
    have enk:F.eq n k:=slope_un F hn hk' on
    exact F.add_eq (F.sub_eq (F.sub_eq (F.add_eq (F.add_eq (F.refl _) (F.mul_eq (F.refl _) eD)) (F.mul_eq eD eD)) (F.mul_eq (F.add_eq enk elm) (F.refl _))) (F.mul_eq (F.sub_eq enk elm) fD)) (F.mul_eq (F.mul_eq elm enk) (F.sub_eq (F.refl _) eD))
   ·have ha:=(F.zd (ax_a F a2 a3)).resolve_right h23
    exact q_eq F (q_d F hs) (ax_x F ha (ax_e F a2 ha))
  ·have ha:=(F.zd (ax_a F a1 a2)).resolve_right h12
   exact q_eq F (q_d F hs) (ax_x F ha (ax_e F a1 ha))
 have t1:=ln_two F kD hX pD (n:=n)
 have t2:=ln_two F kE hX pE (n:=k)
 have t3:F.eq (lnv F k x1 y1 X Y) (lnv F k xE yE X Y):=k_mv F hk.c3
 refine F.trans (fin F (c:=F.sub X xE) (d:=F.sub X xD) t1 t2 hq) (F.mul_eq (F.mul_eq (F.refl _) (F.symm t3)) (F.refl _))
end
end Ec
namespace Ec
set_option maxRecDepth 100000
open Go Ring Ab
section
variable {α:Type} (F:Fd α)
theorem ra_3 {x1 y1 l xD yD:α}(kD:F.Z (F.sub yD (F.sub (F.mul l (F.sub x1 xD)) y1))):F.Z (F.sub (F.sub (F.sub (F.int 0) y1) yD) (F.mul (F.sub (F.int 0) l) (F.sub x1 xD))):=by
 have e:(F.sub (F.sub (F.sub (F.int 0) y1) yD) (F.mul (F.sub (F.int 0) l) (F.sub x1 xD)))=(F.mul (F.int (-1)) (F.sub yD (F.sub (F.mul l (F.sub x1 xD)) y1))):=F.eq_of (fun k_=>match k_ with|0=>x1|1=>y1|2=>x1|3=>x1|4=>x1|5=>x1|6=>l|7=>x1|8=>x1|9=>x1|10=>xD|11=>yD|12=>x1|13=>x1|14=>x1|15=>x1|16=>x1|17=>x1|18=>x1|19=>x1|20=>x1|21=>x1|22=>x1|23=>x1|_=>x1) (e:=(.s (.s (.s (.n 0) (.v 1)) (.v 11)) (.m (.s (.n 0) (.v 6)) (.s (.v 0) (.v 10))))) (f:=(.m (.n (-1)) (.s (.v 11) (.s (.m (.v 6) (.s (.v 0) (.v 10))) (.v 1))))) rfl rfl (by decide +kernel)
 rw[e]
 exact (F.zm' _ kD)
theorem ra_c {x1 y1 x2 y2 l xD yD:α}(kD:F.Z (F.sub yD (F.sub (F.mul l (F.sub x1 xD)) y1)))(hD:F.Z (F.sub xD (F.sub (F.sub (F.mul l l) x1) x2)))(c3l:F.Z (F.sub (F.sub y1 y2) (F.mul l (F.sub x1 x2))))(ccl:F.Z (F.sub (F.mul l (F.add y1 y2)) (F.add (F.add (F.mul x1 x1) (F.mul x1 x2)) (F.mul x2 x2)))):F.Z (F.sub (F.mul (F.sub (F.int 0) l) (F.add (F.sub (F.int 0) y1) yD)) (F.add (F.add (F.mul x1 x1) (F.mul x1 xD)) (F.mul xD xD))):=by
 have e:(F.sub (F.mul (F.sub (F.int 0) l) (F.add (F.sub (F.int 0) y1) yD)) (F.add (F.add (F.mul x1 x1) (F.mul x1 xD)) (F.mul xD xD)))=(F.add (F.add (F.add (F.mul (F.mul (F.int (-1)) l) (F.sub yD (F.sub (F.mul l (F.sub x1 xD)) y1))) (F.mul (F.add x2 (F.mul (F.int (-1)) xD)) (F.sub xD (F.sub (F.sub (F.mul l l) x1) x2)))) (F.mul l (F.sub (F.sub y1 y2) (F.mul l (F.sub x1 x2))))) (F.mul (F.int 1) (F.sub (F.mul l (F.add y1 y2)) (F.add (F.add (F.mul x1 x1) (F.mul x1 x2)) (F.mul x2 x2))))):=F.eq_of (fun k_=>match k_ with|0=>x1|1=>y1|2=>x2|3=>y2|4=>x1|5=>x1|6=>l|7=>x1|8=>x1|9=>x1|10=>xD|11=>yD|12=>x1|13=>x1|14=>x1|15=>x1|16=>x1|17=>x1|18=>x1|19=>x1|20=>x1|21=>x1|22=>x1|23=>x1|_=>x1) (e:=(.s (.m (.s (.n 0) (.v 6)) (.a (.s (.n 0) (.v 1)) (.v 11))) (.a (.a (.m (.v 0) (.v 0)) (.m (.v 0) (.v 10))) (.m (.v 10) (.v 10))))) (f:=(.a (.a (.a (.m (.m (.n (-1)) (.v 6)) (.s (.v 11) (.s (.m (.v 6) (.s (.v 0) (.v 10))) (.v 1)))) (.m (.a (.v 2) (.m (.n (-1)) (.v 10))) (.s (.v 10) (.s (.s (.m (.v 6) (.v 6)) (.v 0)) (.v 2))))) (.m (.v 6) (.s (.s (.v 1) (.v 3)) (.m (.v 6) (.s (.v 0) (.v 2)))))) (.m (.n 1) (.s (.m (.v 6) (.a (.v 1) (.v 3))) (.a (.a (.m (.v 0) (.v 0)) (.m (.v 0) (.v 2))) (.m (.v 2) (.v 2))))))) rfl rfl (by decide +kernel)
 rw[e]
 exact (F.za (F.za (F.za (F.zm' _ kD) (F.zm' _ hD)) (F.zm' _ c3l)) (F.zm' _ ccl))
theorem rb_3 {x1 y1 x2 y2 l xD yD:α}(kD:F.Z (F.sub yD (F.sub (F.mul l (F.sub x1 xD)) y1)))(c3l:F.Z (F.sub (F.sub y1 y2) (F.mul l (F.sub x1 x2)))):F.Z (F.sub (F.sub yD (F.sub (F.int 0) y2)) (F.mul (F.sub (F.int 0) l) (F.sub xD x2))):=by
 have e:(F.sub (F.sub yD (F.sub (F.int 0) y2)) (F.mul (F.sub (F.int 0) l) (F.sub xD x2)))=(F.add (F.mul (F.int 1) (F.sub yD (F.sub (F.mul l (F.sub x1 xD)) y1))) (F.mul (F.int (-1)) (F.sub (F.sub y1 y2) (F.mul l (F.sub x1 x2))))):=F.eq_of (fun k_=>match k_ with|0=>x1|1=>y1|2=>x2|3=>y2|4=>x1|5=>x1|6=>l|7=>x1|8=>x1|9=>x1|10=>xD|11=>yD|12=>x1|13=>x1|14=>x1|15=>x1|16=>x1|17=>x1|18=>x1|19=>x1|20=>x1|21=>x1|22=>x1|23=>x1|_=>x1) (e:=(.s (.s (.v 11) (.s (.n 0) (.v 3))) (.m (.s (.n 0) (.v 6)) (.s (.v 10) (.v 2))))) (f:=(.a (.m (.n 1) (.s (.v 11) (.s (.m (.v 6) (.s (.v 0) (.v 10))) (.v 1)))) (.m (.n (-1)) (.s (.s (.v 1) (.v 3)) (.m (.v 6) (.s (.v 0) (.v 2))))))) rfl rfl (by decide +kernel)
 rw[e]
 exact (F.za (F.zm' _ kD) (F.zm' _ c3l))
theorem rb_c {x1 y1 x2 y2 l xD yD:α}(kD:F.Z (F.sub yD (F.sub (F.mul l (F.sub x1 xD)) y1)))(hD:F.Z (F.sub xD (F.sub (F.sub (F.mul l l) x1) x2)))(c3l:F.Z (F.sub (F.sub y1 y2) (F.mul l (F.sub x1 x2))))(ccl:F.Z (F.sub (F.mul l (F.add y1 y2)) (F.add (F.add (F.mul x1 x1) (F.mul x1 x2)) (F.mul x2 x2)))):F.Z (F.sub (F.mul (F.sub (F.int 0) l) (F.add yD (F.sub (F.int 0) y2))) (F.add (F.add (F.mul xD xD) (F.mul xD x2)) (F.mul x2 x2))):=by
 have e:(F.sub (F.mul (F.sub (F.int 0) l) (F.add yD (F.sub (F.int 0) y2))) (F.add (F.add (F.mul xD xD) (F.mul xD x2)) (F.mul x2 x2)))=(F.add (F.add (F.mul (F.mul (F.int (-1)) l) (F.sub yD (F.sub (F.mul l (F.sub x1 xD)) y1))) (F.mul (F.add x1 (F.mul (F.int (-1)) xD)) (F.sub xD (F.sub (F.sub (F.mul l l) x1) x2)))) (F.mul (F.int 1) (F.sub (F.mul l (F.add y1 y2)) (F.add (F.add (F.mul x1 x1) (F.mul x1 x2)) (F.mul x2 x2))))):=F.eq_of (fun k_=>match k_ with|0=>x1|1=>y1|2=>x2|3=>y2|4=>x1|5=>x1|6=>l|7=>x1|8=>x1|9=>x1|10=>xD|11=>yD|12=>x1|13=>x1|14=>x1|15=>x1|16=>x1|17=>x1|18=>x1|19=>x1|20=>x1|21=>x1|22=>x1|23=>x1|_=>x1) (e:=(.s (.m (.s (.n 0) (.v 6)) (.a (.v 11) (.s (.n 0) (.v 3)))) (.a (.a (.m (.v 10) (.v 10)) (.m (.v 10) (.v 2))) (.m (.v 2) (.v 2))))) (f:=(.a (.a (.m (.m (.n (-1)) (.v 6)) (.s (.v 11) (.s (.m (.v 6) (.s (.v 0) (.v 10))) (.v 1)))) (.m (.a (.v 0) (.m (.n (-1)) (.v 10))) (.s (.v 10) (.s (.s (.m (.v 6) (.v 6)) (.v 0)) (.v 2))))) (.m (.n 1) (.s (.m (.v 6) (.a (.v 1) (.v 3))) (.a (.a (.m (.v 0) (.v 0)) (.m (.v 0) (.v 2))) (.m (.v 2) (.v 2))))))) rfl rfl (by decide +kernel)
 rw[e]
 exact (F.za (F.za (F.zm' _ kD) (F.zm' _ hD)) (F.zm' _ ccl))
theorem rc_3 {x1 y1 x2 y2 l xD yD:α}(kD:F.Z (F.sub yD (F.sub (F.mul l (F.sub x1 xD)) y1)))(c3l:F.Z (F.sub (F.sub y1 y2) (F.mul l (F.sub x1 x2)))):F.Z (F.sub (F.sub y2 (F.sub (F.int 0) yD)) (F.mul l (F.sub x2 xD))):=by
 have e:(F.sub (F.sub y2 (F.sub (F.int 0) yD)) (F.mul l (F.sub x2 xD)))=(F.add (F.mul (F.int 1) (F.sub yD (F.sub (F.mul l (F.sub x1 xD)) y1))) (F.mul (F.int (-1)) (F.sub (F.sub y1 y2) (F.mul l (F.sub x1 x2))))):=F.eq_of (fun k_=>match k_ with|0=>x1|1=>y1|2=>x2|3=>y2|4=>x1|5=>x1|6=>l|7=>x1|8=>x1|9=>x1|10=>xD|11=>yD|12=>x1|13=>x1|14=>x1|15=>x1|16=>x1|17=>x1|18=>x1|19=>x1|20=>x1|21=>x1|22=>x1|23=>x1|_=>x1) (e:=(.s (.s (.v 3) (.s (.n 0) (.v 11))) (.m (.v 6) (.s (.v 2) (.v 10))))) (f:=(.a (.m (.n 1) (.s (.v 11) (.s (.m (.v 6) (.s (.v 0) (.v 10))) (.v 1)))) (.m (.n (-1)) (.s (.s (.v 1) (.v 3)) (.m (.v 6) (.s (.v 0) (.v 2))))))) rfl rfl (by decide +kernel)
 rw[e]
 exact (F.za (F.zm' _ kD) (F.zm' _ c3l))
theorem rc_c {x1 y1 x2 y2 l xD yD:α}(kD:F.Z (F.sub yD (F.sub (F.mul l (F.sub x1 xD)) y1)))(hD:F.Z (F.sub xD (F.sub (F.sub (F.mul l l) x1) x2)))(c3l:F.Z (F.sub (F.sub y1 y2) (F.mul l (F.sub x1 x2))))(ccl:F.Z (F.sub (F.mul l (F.add y1 y2)) (F.add (F.add (F.mul x1 x1) (F.mul x1 x2)) (F.mul x2 x2)))):F.Z (F.sub (F.mul l (F.add y2 (F.sub (F.int 0) yD))) (F.add (F.add (F.mul x2 x2) (F.mul x2 xD)) (F.mul xD xD))):=by
 have e:(F.sub (F.mul l (F.add y2 (F.sub (F.int 0) yD))) (F.add (F.add (F.mul x2 x2) (F.mul x2 xD)) (F.mul xD xD)))=(F.add (F.add (F.mul (F.mul (F.int (-1)) l) (F.sub yD (F.sub (F.mul l (F.sub x1 xD)) y1))) (F.mul (F.add x1 (F.mul (F.int (-1)) xD)) (F.sub xD (F.sub (F.sub (F.mul l l) x1) x2)))) (F.mul (F.int 1) (F.sub (F.mul l (F.add y1 y2)) (F.add (F.add (F.mul x1 x1) (F.mul x1 x2)) (F.mul x2 x2))))):=F.eq_of (fun k_=>match k_ with|0=>x1|1=>y1|2=>x2|3=>y2|4=>x1|5=>x1|6=>l|7=>x1|8=>x1|9=>x1|10=>xD|11=>yD|12=>x1|13=>x1|14=>x1|15=>x1|16=>x1|17=>x1|18=>x1|19=>x1|20=>x1|21=>x1|22=>x1|23=>x1|_=>x1) (e:=(.s (.m (.v 6) (.a (.v 3) (.s (.n 0) (.v 11)))) (.a (.a (.m (.v 2) (.v 2)) (.m (.v 2) (.v 10))) (.m (.v 10) (.v 10))))) (f:=(.a (.a (.m (.m (.n (-1)) (.v 6)) (.s (.v 11) (.s (.m (.v 6) (.s (.v 0) (.v 10))) (.v 1)))) (.m (.a (.v 0) (.m (.n (-1)) (.v 10))) (.s (.v 10) (.s (.s (.m (.v 6) (.v 6)) (.v 0)) (.v 2))))) (.m (.n 1) (.s (.m (.v 6) (.a (.v 1) (.v 3))) (.a (.a (.m (.v 0) (.v 0)) (.m (.v 0) (.v 2))) (.m (.v 2) (.v 2))))))) rfl rfl (by decide +kernel)
 rw[e]
 exact (F.za (F.za (F.zm' _ kD) (F.zm' _ hD)) (F.zm' _ ccl))
theorem rf_n {x1 y1 x2 l xD X Y c:α}(hN:F.Z (F.add (F.mul (F.sub Y (F.add (F.mul l X) c)) (F.sub (F.sub (F.int 0) Y) (F.add (F.mul l X) c))) (F.mul (F.mul (F.sub X x1) (F.sub X x2)) (F.sub X xD))))(hc:F.Z (F.sub c (F.sub y1 (F.mul l x1)))):F.Z (F.sub (F.mul (F.sub (F.sub Y y1) (F.mul l (F.sub X x1))) (F.sub (F.sub Y (F.sub (F.int 0) y1)) (F.mul (F.sub (F.int 0) l) (F.sub X x1)))) (F.mul (F.mul (F.sub X x1) (F.sub X x2)) (F.sub X xD))):=by
 have e:(F.sub (F.mul (F.sub (F.sub Y y1) (F.mul l (F.sub X x1))) (F.sub (F.sub Y (F.sub (F.int 0) y1)) (F.mul (F.sub (F.int 0) l) (F.sub X x1)))) (F.mul (F.mul (F.sub X x1) (F.sub X x2)) (F.sub X xD)))=(F.add (F.mul (F.int (-1)) (F.add (F.mul (F.sub Y (F.add (F.mul l X) c)) (F.sub (F.sub (F.int 0) Y) (F.add (F.mul l X) c))) (F.mul (F.mul (F.sub X x1) (F.sub X x2)) (F.sub X xD)))) (F.mul (F.add (F.add (F.add c y1) (F.mul (F.mul (F.int (-1)) l) x1)) (F.mul (F.mul (F.int 2) X) l)) (F.sub c (F.sub y1 (F.mul l x1))))):=F.eq_of (fun k_=>match k_ with|0=>x1|1=>y1|2=>x2|3=>x1|4=>x1|5=>x1|6=>l|7=>x1|8=>x1|9=>x1|10=>xD|11=>x1|12=>x1|13=>x1|14=>X|15=>Y|16=>x1|17=>c|18=>x1|19=>x1|20=>x1|21=>x1|22=>x1|23=>x1|_=>x1) (e:=(.s (.m (.s (.s (.v 15) (.v 1)) (.m (.v 6) (.s (.v 14) (.v 0)))) (.s (.s (.v 15) (.s (.n 0) (.v 1))) (.m (.s (.n 0) (.v 6)) (.s (.v 14) (.v 0))))) (.m (.m (.s (.v 14) (.v 0)) (.s (.v 14) (.v 2))) (.s (.v 14) (.v 10))))) (f:=(.a (.m (.n (-1)) (.a (.m (.s (.v 15) (.a (.m (.v 6) (.v 14)) (.v 17))) (.s (.s (.n 0) (.v 15)) (.a (.m (.v 6) (.v 14)) (.v 17)))) (.m (.m (.s (.v 14) (.v 0)) (.s (.v 14) (.v 2))) (.s (.v 14) (.v 10))))) (.m (.a (.a (.a (.v 17) (.v 1)) (.m (.m (.n (-1)) (.v 6)) (.v 0))) (.m (.m (.n 2) (.v 14)) (.v 6))) (.s (.v 17) (.s (.v 1) (.m (.v 6) (.v 0))))))) rfl rfl (by decide +kernel)
 rw[e]
 exact (F.za (F.zm' _ hN) (F.zm' _ hc))
theorem rf_m {x1 y1 x2 y2 l X Y:α}(c3l:F.Z (F.sub (F.sub y1 y2) (F.mul l (F.sub x1 x2)))):F.Z (F.sub (F.sub (F.sub Y (F.sub (F.int 0) y1)) (F.mul (F.sub (F.int 0) l) (F.sub X x1))) (F.sub (F.sub Y (F.sub (F.int 0) y2)) (F.mul (F.sub (F.int 0) l) (F.sub X x2)))):=by
 have e:(F.sub (F.sub (F.sub Y (F.sub (F.int 0) y1)) (F.mul (F.sub (F.int 0) l) (F.sub X x1))) (F.sub (F.sub Y (F.sub (F.int 0) y2)) (F.mul (F.sub (F.int 0) l) (F.sub X x2))))=(F.mul (F.int 1) (F.sub (F.sub y1 y2) (F.mul l (F.sub x1 x2)))):=F.eq_of (fun k_=>match k_ with|0=>x1|1=>y1|2=>x2|3=>y2|4=>x1|5=>x1|6=>l|7=>x1|8=>x1|9=>x1|10=>x1|11=>x1|12=>x1|13=>x1|14=>X|15=>Y|16=>x1|17=>x1|18=>x1|19=>x1|20=>x1|21=>x1|22=>x1|23=>x1|_=>x1) (e:=(.s (.s (.s (.v 15) (.s (.n 0) (.v 1))) (.m (.s (.n 0) (.v 6)) (.s (.v 14) (.v 0)))) (.s (.s (.v 15) (.s (.n 0) (.v 3))) (.m (.s (.n 0) (.v 6)) (.s (.v 14) (.v 2)))))) (f:=(.m (.n 1) (.s (.s (.v 1) (.v 3)) (.m (.v 6) (.s (.v 0) (.v 2)))))) rfl rfl (by decide +kernel)
 rw[e]
 exact (F.zm' _ c3l)
theorem e1_ {x1 x2 l xD:α}(hD:F.Z (F.sub xD (F.sub (F.sub (F.mul l l) x1) x2))):F.Z (F.sub (F.add (F.add x1 x2) xD) (F.mul l l)):=by
 have e:(F.sub (F.add (F.add x1 x2) xD) (F.mul l l))=(F.mul (F.int 1) (F.sub xD (F.sub (F.sub (F.mul l l) x1) x2))):=F.eq_of (fun k_=>match k_ with|0=>x1|1=>x1|2=>x2|3=>x1|4=>x1|5=>x1|6=>l|7=>x1|8=>x1|9=>x1|10=>xD|11=>x1|12=>x1|13=>x1|14=>x1|15=>x1|16=>x1|17=>x1|18=>x1|19=>x1|20=>x1|21=>x1|22=>x1|23=>x1|_=>x1) (e:=(.s (.a (.a (.v 0) (.v 2)) (.v 10)) (.m (.v 6) (.v 6)))) (f:=(.m (.n 1) (.s (.v 10) (.s (.s (.m (.v 6) (.v 6)) (.v 0)) (.v 2))))) rfl rfl (by decide +kernel)
 rw[e]
 exact (F.zm' _ hD)
theorem bk_n {y1 y2:α}(h:F.Z (F.sub (F.sub (F.int 0) y1) y2)):F.Z (F.add y1 y2):=by
 have e:(F.add y1 y2)=(F.mul (F.int (-1)) (F.sub (F.sub (F.int 0) y1) y2)):=F.eq_of (fun k_=>match k_ with|0=>y1|1=>y1|2=>y1|3=>y2|4=>y1|5=>y1|6=>y1|7=>y1|8=>y1|9=>y1|10=>y1|11=>y1|12=>y1|13=>y1|14=>y1|15=>y1|16=>y1|17=>y1|18=>y1|19=>y1|20=>y1|21=>y1|22=>y1|23=>y1|_=>y1) (e:=(.a (.v 1) (.v 3))) (f:=(.m (.n (-1)) (.s (.s (.n 0) (.v 1)) (.v 3)))) rfl rfl (by decide +kernel)
 rw[e]
 exact (F.zm' _ h)
theorem line_two {b l x1 y1 x2 y2 xD X Y:α}(p1:On F b x1 y1)(hX:On F b X Y)(hl:Slope F l x1 y1 x2 y2)(hD:F.eq xD (Xs F l x1 x2)) :
  F.eq (F.mul (lnv F l x1 y1 X Y) (lnv F (F.sub (F.int 0) l) x1 (F.sub (F.int 0) y1) X Y)) (F.mul (F.mul (F.sub X x1) (F.sub X x2)) (F.sub X xD)):=by
 have hc:F.Z (F.sub (F.sub y1 (F.mul l x1)) (F.sub y1 (F.mul l x1))):=F.refl _
 have w2:=vt_2 F hl.cc hl.c3 hD hc
 exact rf_n F (ln_norm F hX (e1_ F hD) w2 (vt_3 F w2 hD hc p1)) hc
theorem lnv_eq {l l' x x' y y':α}(X Y:α)(hl:F.eq l l')(hx:F.eq x x')(hy:F.eq y y'):F.eq (lnv F l x y X Y) (lnv F l' x' y' X Y):=F.sub_eq (F.sub_eq (F.refl _) hy) (F.mul_eq hl (F.sub_eq (F.refl _) hx))
variable {γ:Type} (A:Ab γ)
structure Cls (cls:α→γ):Prop where
 eq:∀{a b},F.eq a b→cls a=cls b
 mul:∀{a b},¬F.Z a→¬F.Z b→cls (F.mul a b)=A.add (cls a) (cls b)
variable {cls:α→γ} {b X Y:α}
inductive HV (cls:α→γ) (X Y:α):Pt α→Pt α→γ→Prop
 |zl {B}:HV cls X Y none B A.O
 |zr {B}:HV cls X Y B none A.O
 |op {x1 y1 x2 y2}:Opp F x1 y1 x2 y2→HV cls X Y (some (x1,y1)) (some (x2,y2)) A.O
 |sl {x1 y1 x2 y2 l}:¬Opp F x1 y1 x2 y2→Slope F l x1 y1 x2 y2→¬F.Z (lnv F l x1 y1 X Y)→HV cls X Y (some (x1,y1)) (some (x2,y2)) (cls (lnv F l x1 y1 X Y))
def Gd (cls:α→γ)(X:α):Pt α→Prop
 |none=>True
 |some (x,_)=>¬F.Z (F.sub X x)∧cls (F.sub X x)=A.O
section
variable (hC:Cls F A cls)
include hC
theorem hv_un {U V:Pt α}{u v:γ}(h:HV F A cls X Y U V u)(k:HV F A cls X Y U V v):u=v:=by
 cases h with
 |zl=>cases k<;>rfl
 |zr=>cases k<;>rfl
 |op h=>
  cases k with
  |op k=>rfl
  |sl k _ _=>exact absurd h k
 |sl h hs hz=>
  cases k with
  |op k=>exact absurd k h
  |sl k ks kz=>exact hC.eq (lnv_eq F X Y (slope_un F hs ks h) (F.refl _) (F.refl _))
theorem hv_eq {U V U' V':Pt α}{u:γ}(a:EqP F U U')(e:EqP F V V')(h:HV F A cls X Y U V u):HV F A cls X Y U' V' u:=by
 cases h with
 |zl=>
  rcases U' with _|⟨x,y⟩
  ·exact .zl
  ·exact a.elim
 |zr=>
  rcases V' with _|⟨x,y⟩
  ·exact .zr
  ·exact e.elim
 |op h=>
  rcases U' with _|⟨x,y⟩
  ·exact a.elim
  rcases V' with _|⟨x',y'⟩
  ·exact e.elim
  exact .op (opp_eq F a.1 a.2 e.1 e.2 h)
 |@sl u1 w1 u2 w2 l h hs hz=>
  rcases U' with _|⟨x,y⟩
  ·exact a.elim
  rcases V' with _|⟨x',y'⟩
  ·exact e.elim
  have hl:=lnv_eq F X Y (F.refl l) a.1 a.2
  rw[hC.eq hl]
  exact .sl (fun k=>h (opp_eq F (F.symm a.1) (F.symm a.2) (F.symm e.1) (F.symm e.2) k)) (slope_eq F (F.refl _) a.1 a.2 e.1 e.2 hs) (fun k=>hz (F.Z_of (F.symm hl) k))
theorem hv_comm {U V:Pt α}{u:γ}(h:HV F A cls X Y U V u):HV F A cls X Y V U u:=by
 cases h with
 |zl=>exact .zr
 |zr=>exact .zl
 |op h=>exact .op ⟨op_x F h.1,op_c F h.2⟩
 |@sl u1 w1 u2 w2 l h hs hz=>
  have e:F.eq (lnv F l u1 w1 X Y) (lnv F l u2 w2 X Y):=k_mv F (X:=X) (Y:=Y) hs.c3
  rw[hC.eq e]
  exact .sl (fun k=>h ⟨op_x F k.1,op_c F k.2⟩) ⟨cm_3 F hs.c3,cm_c F hs.cc⟩ (fun k=>hz (F.Z_of (F.symm e) k))
theorem three {x1 x2 x3:α}(g1:¬F.Z (F.sub X x1)∧cls (F.sub X x1)=A.O)(g2:¬F.Z (F.sub X x2)∧cls (F.sub X x2)=A.O)(g3:¬F.Z (F.sub X x3)∧cls (F.sub X x3)=A.O):cls (F.mul (F.mul (F.sub X x1) (F.sub X x2)) (F.sub X x3))=A.O:=by
 rw[hC.mul (fun h=>(F.zd h).elim g1.1 g2.1) g3.1,hC.mul g1.1 g2.1,g1.2,g2.2,g3.2,A.zero,A.zero]
theorem hv_ref {l x1 y1 x2 y2 xD:α}(p1:On F b x1 y1)(hX:On F b X Y)(hl:Slope F l x1 y1 x2 y2)(hD:F.eq xD (Xs F l x1 x2))(g1:Gd F A cls X (some (x1,y1)))(g2:Gd F A cls X (some (x2,y2))){yD:α}(g3:Gd F A cls X (some (xD,yD)))
  (n1:¬F.Z (lnv F l x1 y1 X Y)) (n2:¬F.Z (lnv F (F.sub (F.int 0) l) x1 (F.sub (F.int 0) y1) X Y)):A.add (cls (lnv F l x1 y1 X Y)) (cls (lnv F (F.sub (F.int 0) l) x1 (F.sub (F.int 0) y1) X Y))=A.O:=by
 rw[←hC.mul n1 n2,hC.eq (line_two F p1 hX hl hD),three F A hC g1 g2 g3]
theorem hv_co {U V W D E:Pt α}{u v s t:γ}(hb:¬F.Z b)(hX:On F b X Y)(a:OnP F b U)(e:OnP F b V)(c:OnP F b W)(hD:Sum F U V D)(hE:Sum F V W E)(gU:Gd F A cls X U)(gV:Gd F A cls X V)(gW:Gd F A cls X W)(gD:Gd F A cls X D)(gE:Gd F A cls X E)
  (hu:HV F A cls X Y U V u) (hv:HV F A cls X Y D W v) (hs:HV F A cls X Y V W s) (ht:HV F A cls X Y U E t):A.add u v=A.add s t:=by
 have d:=sum_on F a e hD
 have f:=sum_on F e c hE
 rcases U with _|⟨x1,y1⟩
 ·have e1:=hv_un F A hC hu .zl
  have e2:=hv_un F A hC ht .zl
  have e3:=hv_un F A hC (hv_eq F A hC (eqP_symm F (sum_nl F hD)) (eqP_refl F W) hv) hs
  rw[e1,e2,e3,A.zero,A.zero']
 rcases V with _|⟨x2,y2⟩
 ·have e1:=hv_un F A hC hu .zr
  have e2:=hv_un F A hC hs .zl
  have e3:=hv_un F A hC (hv_eq F A hC (eqP_symm F (sum_nr F hD)) (sum_nl F hE) hv) ht
  rw[e1,e2,e3]
 rcases W with _|⟨x3,y3⟩
 ·have e1:=hv_un F A hC hv .zr
  have e2:=hv_un F A hC hs .zr
  have e3:=hv_un F A hC (hv_eq F A hC (eqP_refl F _) (sum_nr F hE) hu) ht
  rw[e1,e2,e3,A.zero,A.zero']
 -- what is opposite,and what is not
 have noA:∀{B C:Pt α},OnP F b B→OnP F b C→Sum F B C B→EqP F C none:=fun {B C} p q h=>by
  have h1:=sum_back F hb q p (sum_comm F h)
  exact sum_un F h1 (sum_comm F (sum_self F B))
 cases hD with
 |op oD=>
  have e1:=hv_un F A hC hu (.op oD)
  have e2:=hv_un F A hC hv .zl
  rw[e1,e2,A.zero]
  cases hE with
  |op oE=>
   rw[hv_un F A hC hs (.op oE),hv_un F A hC ht .zr,A.zero]
  |@sl _ _ _ _ m xE yE oE sE kx ky=>
   have hxy:F.eq x1 x2:=oD.1
   have hyy:F.eq y1 (F.sub (F.int 0) y2):=by
    have:=eqP_symm F (sum_op F (Sum.op (F:=F) ⟨op_x F oD.1,op_c F oD.2⟩))
    exact this.2
   cases hs with
   |op k=>exact absurd k oE
   |@sl _ _ _ _ m' k1 k2 k3=>
    cases ht with
    |op k=>
     exfalso
     have q:EqP F (some (xE,yE)) (some (x2,y2)):=⟨F.trans (F.symm k.1) hxy,by
      have:=eqP_symm F (sum_op F (Sum.op (F:=F) k))
      have h2:F.eq yE (F.sub (F.int 0) y1):=this.2
      exact F.trans h2 (F.trans (F.sub_eq (F.refl _) hyy) (neg_neg F (some (x2,y2))).2)⟩
     exact noA (B:=some (x2,y2)) (C:=some (x3,y3)) e c (sum_eq F (eqP_refl F _) (eqP_refl F _) q (.sl oE sE kx ky))
    |@sl _ _ _ _ k' l1 l2 l3=>
     have em:=slope_un F k2 sE oE
     have sr:Slope F (F.sub (F.int 0) m) x2 (F.sub (F.int 0) y2) xE yE:=⟨ra_3 F ky,ra_c F ky kx sE.c3 sE.cc⟩
     have sr':Slope F (F.sub (F.int 0) m) x1 y1 xE yE:=slope_eq F (F.refl _) (F.symm hxy) (F.symm hyy) (F.refl _) (F.refl _) sr
     have ek:=slope_un F l2 sr' l1
     have e3:=lnv_eq F X Y ek hxy hyy
     have e4:=lnv_eq F X Y em (F.refl x2) (F.refl y2)
     rw[hC.eq e3,hC.eq e4]
     exact (hv_ref F A hC e hX sE kx gV gW gE (fun k=>k3 (F.Z_of (F.symm e4) k)) (fun k=>l3 (F.Z_of (F.symm e3) k))).symm
 |@sl _ _ _ _ l xD yD oD sD kx ky=>
  cases hu with
  |op k=>exact absurd k oD
  |@sl _ _ _ _ l0 u1 u2 u3=>
  have el:=slope_un F u2 sD oD
  have e4:=lnv_eq F X Y el (F.refl x1) (F.refl y1)
  have n4:¬F.Z (lnv F l x1 y1 X Y):=fun k=>u3 (F.Z_of (F.symm e4) k)
  rw[hC.eq e4]
  cases hE with
  |op oE=>
   rw[hv_un F A hC hs (.op oE),hv_un F A hC ht .zr,A.zero]
   have hxy:F.eq x3 x2:=op_x F oE.1
   have hyy:F.eq y3 (F.sub (F.int 0) y2):=(eqP_symm F (sum_op F (Sum.op (F:=F) oE))).2
   cases hv with
   |op k=>
    exfalso
    have q:EqP F (some (xD,yD)) (some (x2,y2)):=⟨F.trans k.1 hxy,by
     have h2:F.eq yD (F.sub (F.int 0) y3):=(eqP_symm F (sum_op F (Sum.op (F:=F) ⟨op_x F k.1,op_c F k.2⟩))).2
     exact F.trans h2 (F.trans (F.sub_eq (F.refl _) hyy) (neg_neg F (some (x2,y2))).2)⟩
    exact noA (B:=some (x2,y2)) (C:=some (x1,y1)) e a (sum_eq F (eqP_refl F _) (eqP_refl F _) q (sum_comm F (.sl oD sD kx ky)))
   |@sl _ _ _ _ n' l1 l2 l3=>
    have sr:Slope F (F.sub (F.int 0) l) xD yD x2 (F.sub (F.int 0) y2):=⟨rb_3 F ky sD.c3,rb_c F ky kx sD.c3 sD.cc⟩
    have sr':Slope F (F.sub (F.int 0) l) xD yD x3 y3:=slope_eq F (F.refl _) (F.refl _) (F.refl _) (F.symm hxy) (F.symm hyy) sr
    have en:=slope_un F l2 sr' l1
    have e5:F.eq (lnv F n' xD yD X Y) (lnv F (F.sub (F.int 0) l) x1 (F.sub (F.int 0) y1) X Y):=F.trans (lnv_eq F X Y en (F.refl xD) (F.refl yD)) (F.trans (k_mv F (X:=X) (Y:=Y) sr.c3) (F.symm (rf_m F (X:=X) (Y:=Y) sD.c3)))
    rw[hC.eq e5]
    exact hv_ref F A hC a hX sD kx gU gV gD n4 (fun k=>l3 (F.Z_of (F.symm e5) k))
  |@sl _ _ _ _ m xE yE oE sE kx' ky'=>
   cases hs with
   |op k=>exact absurd k oE
   |@sl _ _ _ _ m0 s1 s2 s3=>
   have em:=slope_un F s2 sE oE
   have e5:=lnv_eq F X Y em (F.refl x2) (F.refl y2)
   have n5:¬F.Z (lnv F m x2 y2 X Y):=fun k=>s3 (F.Z_of (F.symm e5) k)
   rw[hC.eq e5]
   have hDs:Sum F (some (x1,y1)) (some (x2,y2)) (some (xD,yD)):=.sl oD sD kx ky
   have hEs:Sum F (some (x2,y2)) (some (x3,y3)) (some (xE,yE)):=.sl oE sE kx' ky'
   have bk:Opp F xD yD x3 y3↔Opp F x1 y1 xE yE:=by
    constructor
    ·intro k
     obtain⟨R,hR,_⟩:=sum_ex F a f
     have:=sum_assoc F hb a e c hDs hEs (.op k) hR
     rcases R with _|⟨r1,r2⟩
     ·have h2:=sum_op F hR
      exact⟨h2.1,by
       have h3:F.eq (F.sub (F.int 0) y1) yE:=h2.2
       exact bk_n F h3⟩
     ·exact this.elim
    ·intro k
     obtain⟨R,hR,_⟩:=sum_ex F d c
     have:=sum_assoc F hb a e c hDs hEs hR (.op k)
     rcases R with _|⟨r1,r2⟩
     ·have h2:=sum_op F hR
      exact⟨h2.1,by
       have h3:F.eq (F.sub (F.int 0) yD) y3:=h2.2
       exact bk_n F h3⟩
     ·exact this.elim
   cases hv with
   |op k=>
    rw[hv_un F A hC ht (.op (bk.1 k)),A.zero,A.zero]
    have hy3:F.eq (F.sub (F.int 0) yD) y3:=(sum_op F (Sum.op (F:=F) k)).2
    have sr:Slope F l x2 y2 x3 y3:=slope_eq F (F.refl _) (F.refl _) (F.refl _) k.1 hy3 ⟨rc_3 F ky sD.c3,rc_c F ky kx sD.c3 sD.cc⟩
    have:=slope_un F sr sE oE
    exact hC.eq (F.trans (k_mv F (X:=X) (Y:=Y) sD.c3) (lnv_eq F X Y this (F.refl _) (F.refl _)))
   |@sl _ _ _ _ n v1 v2 v3=>
    cases ht with
    |op k=>exact absurd (bk.2 k) v1
    |@sl _ _ _ _ k t1 t2 t3=>
     have key:=cocyc F a e c d f hX sD sE kx ky kx' ky' v2 t2 oD oE v1 t1
     have k1:=hC.eq key
     rw[hC.mul (fun h=>(F.zd h).elim n4 v3) gE.1,hC.mul n4 v3,hC.mul (fun h=>(F.zd h).elim n5 t3) gD.1,hC.mul n5 t3,gE.2,gD.2,A.zero,A.zero] at k1
     exact k1
end
end
end Ec
namespace Ec
set_option maxRecDepth 100000
open Go Ring Ab
section
variable {α:Type} (F:Fd α)
theorem on_1 {x1 y1 l c:α}(hc:F.Z (F.sub c (F.sub y1 (F.mul l x1)))):F.Z (F.sub y1 (F.add (F.mul l x1) c)):=by
 have e:(F.sub y1 (F.add (F.mul l x1) c))=(F.mul (F.int (-1)) (F.sub c (F.sub y1 (F.mul l x1)))):=F.eq_of (fun k_=>match k_ with|0=>x1|1=>y1|2=>x1|3=>x1|4=>x1|5=>x1|6=>l|7=>x1|8=>x1|9=>x1|10=>x1|11=>x1|12=>x1|13=>x1|14=>x1|15=>x1|16=>x1|17=>c|18=>x1|19=>x1|20=>x1|21=>x1|22=>x1|23=>x1|_=>x1) (e:=(.s (.v 1) (.a (.m (.v 6) (.v 0)) (.v 17)))) (f:=(.m (.n (-1)) (.s (.v 17) (.s (.v 1) (.m (.v 6) (.v 0)))))) rfl rfl (by decide +kernel)
 rw[e]
 exact (F.zm' _ hc)
theorem on_2 {x1 y1 x2 y2 l c:α}(hc:F.Z (F.sub c (F.sub y1 (F.mul l x1))))(c3:F.Z (F.sub (F.sub y1 y2) (F.mul l (F.sub x1 x2)))):F.Z (F.sub y2 (F.add (F.mul l x2) c)):=by
 have e:(F.sub y2 (F.add (F.mul l x2) c))=(F.add (F.mul (F.int (-1)) (F.sub c (F.sub y1 (F.mul l x1)))) (F.mul (F.int (-1)) (F.sub (F.sub y1 y2) (F.mul l (F.sub x1 x2))))):=F.eq_of (fun k_=>match k_ with|0=>x1|1=>y1|2=>x2|3=>y2|4=>x1|5=>x1|6=>l|7=>x1|8=>x1|9=>x1|10=>x1|11=>x1|12=>x1|13=>x1|14=>x1|15=>x1|16=>x1|17=>c|18=>x1|19=>x1|20=>x1|21=>x1|22=>x1|23=>x1|_=>x1) (e:=(.s (.v 3) (.a (.m (.v 6) (.v 2)) (.v 17)))) (f:=(.a (.m (.n (-1)) (.s (.v 17) (.s (.v 1) (.m (.v 6) (.v 0))))) (.m (.n (-1)) (.s (.s (.v 1) (.v 3)) (.m (.v 6) (.s (.v 0) (.v 2))))))) rfl rfl (by decide +kernel)
 rw[e]
 exact (F.za (F.zm' _ hc) (F.zm' _ c3))
theorem on_3 {x1 y1 l xD yD c:α}(hc:F.Z (F.sub c (F.sub y1 (F.mul l x1))))(kD:F.Z (F.sub yD (F.sub (F.mul l (F.sub x1 xD)) y1))):F.Z (F.sub (F.sub (F.int 0) yD) (F.add (F.mul l xD) c)):=by
 have e:(F.sub (F.sub (F.int 0) yD) (F.add (F.mul l xD) c))=(F.add (F.mul (F.int (-1)) (F.sub c (F.sub y1 (F.mul l x1)))) (F.mul (F.int (-1)) (F.sub yD (F.sub (F.mul l (F.sub x1 xD)) y1)))):=F.eq_of (fun k_=>match k_ with|0=>x1|1=>y1|2=>x1|3=>x1|4=>x1|5=>x1|6=>l|7=>x1|8=>x1|9=>x1|10=>xD|11=>yD|12=>x1|13=>x1|14=>x1|15=>x1|16=>x1|17=>c|18=>x1|19=>x1|20=>x1|21=>x1|22=>x1|23=>x1|_=>x1) (e:=(.s (.s (.n 0) (.v 11)) (.a (.m (.v 6) (.v 10)) (.v 17)))) (f:=(.a (.m (.n (-1)) (.s (.v 17) (.s (.v 1) (.m (.v 6) (.v 0))))) (.m (.n (-1)) (.s (.v 11) (.s (.m (.v 6) (.s (.v 0) (.v 10))) (.v 1)))))) rfl rfl (by decide +kernel)
 rw[e]
 exact (F.za (F.zm' _ hc) (F.zm' _ kD))
theorem ln_c {x1 y1 l X Y c:α}(hc:F.Z (F.sub c (F.sub y1 (F.mul l x1)))):F.Z (F.sub (F.sub (F.sub Y y1) (F.mul l (F.sub X x1))) (F.sub Y (F.add (F.mul l X) c))):=by
 have e:(F.sub (F.sub (F.sub Y y1) (F.mul l (F.sub X x1))) (F.sub Y (F.add (F.mul l X) c)))=(F.mul (F.int 1) (F.sub c (F.sub y1 (F.mul l x1)))):=F.eq_of (fun k_=>match k_ with|0=>x1|1=>y1|2=>x1|3=>x1|4=>x1|5=>x1|6=>l|7=>x1|8=>x1|9=>x1|10=>x1|11=>x1|12=>x1|13=>x1|14=>X|15=>Y|16=>x1|17=>c|18=>x1|19=>x1|20=>x1|21=>x1|22=>x1|23=>x1|_=>x1) (e:=(.s (.s (.s (.v 15) (.v 1)) (.m (.v 6) (.s (.v 14) (.v 0)))) (.s (.v 15) (.a (.m (.v 6) (.v 14)) (.v 17))))) (f:=(.m (.n 1) (.s (.v 17) (.s (.v 1) (.m (.v 6) (.v 0)))))) rfl rfl (by decide +kernel)
 rw[e]
 exact (F.zm' _ hc)
theorem nm_t {m X Y d u1 u2 u3:α}(h:F.Z (F.add (F.mul (F.sub Y (F.add (F.mul m X) d)) (F.sub (F.sub (F.int 0) Y) (F.add (F.mul m X) d))) (F.mul (F.mul (F.sub X u1) (F.sub X u2)) (F.sub X u3)))):F.Z (F.sub (F.mul (F.sub Y (F.add (F.mul m X) d)) (F.sub (F.sub (F.int 0) Y) (F.add (F.mul m X) d))) (F.mul (F.mul (F.sub u1 X) (F.sub u2 X)) (F.sub u3 X))):=by
 have e:(F.sub (F.mul (F.sub Y (F.add (F.mul m X) d)) (F.sub (F.sub (F.int 0) Y) (F.add (F.mul m X) d))) (F.mul (F.mul (F.sub u1 X) (F.sub u2 X)) (F.sub u3 X)))=(F.mul (F.int 1) (F.add (F.mul (F.sub Y (F.add (F.mul m X) d)) (F.sub (F.sub (F.int 0) Y) (F.add (F.mul m X) d))) (F.mul (F.mul (F.sub X u1) (F.sub X u2)) (F.sub X u3)))):=F.eq_of (fun k_=>match k_ with|0=>m|1=>m|2=>m|3=>m|4=>m|5=>m|6=>m|7=>m|8=>m|9=>m|10=>m|11=>m|12=>m|13=>m|14=>X|15=>Y|16=>m|17=>m|18=>d|19=>u1|20=>m|21=>u2|22=>m|23=>u3|_=>m) (e:=(.s (.m (.s (.v 15) (.a (.m (.v 7) (.v 14)) (.v 18))) (.s (.s (.n 0) (.v 15)) (.a (.m (.v 7) (.v 14)) (.v 18)))) (.m (.m (.s (.v 19) (.v 14)) (.s (.v 21) (.v 14))) (.s (.v 23) (.v 14))))) (f:=(.m (.n 1) (.a (.m (.s (.v 15) (.a (.m (.v 7) (.v 14)) (.v 18))) (.s (.s (.n 0) (.v 15)) (.a (.m (.v 7) (.v 14)) (.v 18)))) (.m (.m (.s (.v 14) (.v 19)) (.s (.v 14) (.v 21))) (.s (.v 14) (.v 23)))))) rfl rfl (by decide +kernel)
 rw[e]
 exact (F.zm' _ h)
theorem rec_m {u1 v1 u2 v2 u3 v3:α}(h:F.Z (F.add (F.mul (F.mul u1 u2) u3) (F.mul (F.mul v1 v2) v3))):F.Z (F.sub (F.mul (F.mul u1 u2) u3) (F.mul (F.int (-1)) (F.mul (F.mul v1 v2) v3))):=by
 have e:(F.sub (F.mul (F.mul u1 u2) u3) (F.mul (F.int (-1)) (F.mul (F.mul v1 v2) v3)))=(F.mul (F.int 1) (F.add (F.mul (F.mul u1 u2) u3) (F.mul (F.mul v1 v2) v3))):=F.eq_of (fun k_=>match k_ with|0=>u1|1=>u1|2=>u1|3=>u1|4=>u1|5=>u1|6=>u1|7=>u1|8=>u1|9=>u1|10=>u1|11=>u1|12=>u1|13=>u1|14=>u1|15=>u1|16=>u1|17=>u1|18=>u1|19=>u1|20=>v1|21=>u2|22=>v2|23=>u3|_=>v3) (e:=(.s (.m (.m (.v 19) (.v 21)) (.v 23)) (.m (.n (-1)) (.m (.m (.v 20) (.v 22)) (.v 24))))) (f:=(.m (.n 1) (.a (.m (.m (.v 19) (.v 21)) (.v 23)) (.m (.m (.v 20) (.v 22)) (.v 24))))) rfl rfl (by decide +kernel)
 rw[e]
 exact (F.zm' _ h)
variable {γ:Type} (A:Ab γ) {cls:α→γ} {b:α}
def gv (cls:α→γ)(m u w:α):Pt α→γ
 |none=>A.O
 |some (x,y)=>cls (lnv F m u w x y)
def Off (m u w:α):Pt α→Prop
 |none=>True
 |some (x,y)=>¬F.Z (lnv F m u w x y)∧¬F.Z (lnv F m u w x (F.sub (F.int 0) y))
section
variable (hC:Cls F A cls)
include hC
theorem gv_eq {m u w:α}{U V:Pt α}(h:EqP F U V):gv F A cls m u w U=gv F A cls m u w V:=by
 rcases U with _|⟨x,y⟩<;>rcases V with _|⟨x',y'⟩
 ·rfl
 ·exact h.elim
 ·exact h.elim
 ·exact hC.eq (F.sub_eq (F.sub_eq h.2 (F.refl _)) (F.mul_eq (F.refl _) (F.sub_eq h.1 (F.refl _))))
variable {m u1 v1 u2 v2 u3 v3:α} (p1:On F b u1 v1) (hm:Slope F m u1 v1 u2 v2) (h3:F.eq u3 (Xs F m u1 u2)) (k3:F.eq v3 (Ys F m u1 v1 u3)) (hn1:cls (F.int (-1))=A.O)
include p1 hm h3
theorem gv_neg {x y:α}(e:On F b x y)(g1:Gd F A cls u1 (some (x,y)))(g2:Gd F A cls u2 (some (x,y)))(g3:Gd F A cls u3 (some (x,y)))(ho:Off F m u1 v1 (some (x,y))):A.add (cls (lnv F m u1 v1 x y)) (cls (lnv F m u1 v1 x (F.sub (F.int 0) y)))=A.O:=by
 have hc:F.Z (F.sub (F.sub v1 (F.mul m u1)) (F.sub v1 (F.mul m u1))):=F.refl _
 have w2:=vt_2 F hm.cc hm.c3 h3 hc
 have w3:=vt_3 F w2 h3 hc p1
 have h:=nm_t F (ln_norm F e (e1_ F h3) w2 w3)
 have a1:=ln_c F (X:=x) (Y:=y) hc
 have a2:=ln_c F (X:=x) (Y:=F.sub (F.int 0) y) hc
 have e1:F.eq (F.mul (lnv F m u1 v1 x y) (lnv F m u1 v1 x (F.sub (F.int 0) y))) (F.mul (F.mul (F.sub u1 x) (F.sub u2 x)) (F.sub u3 x)):=F.trans (F.mul_eq a1 a2) h
 rw[←hC.mul ho.1 ho.2,hC.eq e1,hC.mul (fun k=>(F.zd k).elim g1.1 g2.1) g3.1,hC.mul g1.1 g2.1,g1.2,g2.2,g3.2,A.zero,A.zero]
include hn1 k3
theorem hv_rec {U V D:Pt α}{r1 r2 r3:γ}(hb:¬F.Z b)(a:OnP F b U)(e:OnP F b V)(hD:Sum F U V D)(oU:Off F m u1 v1 U)(oV:Off F m u1 v1 V)(oD:Off F m u1 v1 D)
  (gU1:Gd F A cls u1 U) (gU2:Gd F A cls u2 U) (gU3:Gd F A cls u3 U) (gD1:Gd F A cls u1 D) (gD2:Gd F A cls u2 D) (gD3:Gd F A cls u3 D)
  (q1:HV F A cls u1 v1 U V r1) (q2:HV F A cls u2 v2 U V r2) (q3:HV F A cls u3 (F.sub (F.int 0) v3) U V r3) :
  A.add (A.add (A.add r1 r2) r3) (gv F A cls m u1 v1 D)=A.add (gv F A cls m u1 v1 U) (gv F A cls m u1 v1 V):=by
 have d:=sum_on F a e hD
 rcases U with _|⟨x1,y1⟩
 ·rw[hv_un F A hC q1 .zl,hv_un F A hC q2 .zl,hv_un F A hC q3 .zl,A.zero,A.zero,gv_eq F A hC (eqP_symm F (sum_nl F hD))]
  rfl
 rcases V with _|⟨x2,y2⟩
 ·rw[hv_un F A hC q1 .zr,hv_un F A hC q2 .zr,hv_un F A hC q3 .zr,A.zero,A.zero,gv_eq F A hC (eqP_symm F (sum_nr F hD)),A.zero']
  exact (A.zero _).symm
 cases hD with
 |op o=>
  rw[hv_un F A hC q1 (.op o),hv_un F A hC q2 (.op o),hv_un F A hC q3 (.op o),A.zero,A.zero]
  have h2:EqP F (some (x2,y2)) (some (x1,F.sub (F.int 0) y1)):=eqP_symm F (sum_op F (Sum.op (F:=F) o))
  rw[gv_eq F A hC h2,A.zero']
  exact (gv_neg F A hC p1 hm h3 a gU1 gU2 gU3 oU).symm
 |@sl _ _ _ _ l xD yD o sD kx ky=>
  cases q1 with
  |op k=>exact absurd k o
  |@sl _ _ _ _ l1 w1 t1 n1=>
  cases q2 with
  |op k=>exact absurd k o
  |@sl _ _ _ _ l2 w2 t2 n2=>
  cases q3 with
  |op k=>exact absurd k o
  |@sl _ _ _ _ l3 w3 t3 n3=>
  have e1:=lnv_eq F u1 v1 (slope_un F t1 sD o) (F.refl x1) (F.refl y1)
  have e2:=lnv_eq F u2 v2 (slope_un F t2 sD o) (F.refl x1) (F.refl y1)
  have e3:=lnv_eq F u3 (F.sub (F.int 0) v3) (slope_un F t3 sD o) (F.refl x1) (F.refl y1)
  have z1:¬F.Z (lnv F l x1 y1 u1 v1):=fun k=>n1 (F.Z_of (F.symm e1) k)
  have z2:¬F.Z (lnv F l x1 y1 u2 v2):=fun k=>n2 (F.Z_of (F.symm e2) k)
  have z3:¬F.Z (lnv F l x1 y1 u3 (F.sub (F.int 0) v3)):=fun k=>n3 (F.Z_of (F.symm e3) k)
  rw[hC.eq e1,hC.eq e2,hC.eq e3,←hC.mul z1 z2,←hC.mul (fun k=>(F.zd k).elim z1 z2) z3]
  have hc:F.Z (F.sub (F.sub y1 (F.mul l x1)) (F.sub y1 (F.mul l x1))):=F.refl _
  have hd:F.Z (F.sub (F.sub v1 (F.mul m u1)) (F.sub v1 (F.mul m u1))):=F.refl _
  have A2:=vt_2 F sD.cc sD.c3 kx hc
  have A3:=vt_3 F A2 kx hc a
  have B2:=vt_2 F hm.cc hm.c3 h3 hd
  have B3:=vt_3 F B2 h3 hd p1
  have R:=ln_rec F (on_1 F hd) (on_2 F hd hm.c3) (on_3 F hd k3) (on_1 F hc) (on_2 F hc sD.c3) (on_3 F hc ky) (e1_ F h3) B2 B3 (e1_ F kx) A2 A3
  have R2:=rec_m F R
  have s1:=F.mul_eq (F.mul_eq (ln_c F (X:=u1) (Y:=v1) hc) (ln_c F (X:=u2) (Y:=v2) hc)) (ln_c F (X:=u3) (Y:=F.sub (F.int 0) v3) hc)
  have s2:=F.mul_eq (F.mul_eq (ln_c F (X:=x1) (Y:=y1) hd) (ln_c F (X:=x2) (Y:=y2) hd)) (ln_c F (X:=xD) (Y:=F.sub (F.int 0) yD) hd)
  have e4:F.eq (F.mul (F.mul (lnv F l x1 y1 u1 v1) (lnv F l x1 y1 u2 v2)) (lnv F l x1 y1 u3 (F.sub (F.int 0) v3))) (F.mul (F.int (-1)) (F.mul (F.mul (lnv F m u1 v1 x1 y1) (lnv F m u1 v1 x2 y2)) (lnv F m u1 v1 xD (F.sub (F.int 0) yD)))):=
   F.trans s1 (F.trans R2 (F.mul_eq (F.refl _) (F.symm s2)))
  have nn:¬F.Z (F.int (-1)):=nz_int F (by decide +kernel)
  have z12:¬F.Z (F.mul (lnv F m u1 v1 x1 y1) (lnv F m u1 v1 x2 y2)):=fun k=>(F.zd k).elim oU.1 oV.1
  rw[hC.eq e4,hC.mul nn (fun k=>(F.zd k).elim z12 oD.2),hn1,A.zero',hC.mul z12 oD.2,hC.mul oU.1 oV.1,A.assoc,A.comm (cls (lnv F m u1 v1 xD (F.sub (F.int 0) yD)))]
  show A.add _ (A.add (cls (lnv F m u1 v1 xD yD)) _)=_
  rw[gv_neg F A hC p1 hm h3 d gD1 gD2 gD3 oD,A.zero]
  rfl
end
end
end Ec
namespace Pk
set_option maxRecDepth 100000
open Go Ring Ab Ec Fp Fp2 Fp6 Fp12 Frob
def RK:Rg K where
 add:=Fp12.ka
 mul:=Fp12.km
 int:=fun z=>e2 (z,0)
 add_comm:=fun a b=>Fp12.ka_comm a b
 add_assoc:=fun a b c=>Fp12.ka_assoc a b c
 mul_comm:=fun a b=>Fp12.km_comm a b
 mul_assoc:=fun a b c=>Fp12.km_assoc a b c
 dist:=fun a b c=>Fp12.km_ka a b c
 int_add:=fun a b=>by
  refine Prod.ext (hext ?_ rfl rfl) rfl
  exact Prod.ext rfl rfl
 int_mul:=fun a b=>by
  rw[e2_mul]
  congr 1
  apply Prod.ext<;>simp[gm]
 add_zero:=fun a=>ka_k0 a
 mul_one:=fun a=>Fp12.km_one a
 mul_zero:=fun a=>km_k0 a
theorem z12_add {a b:K}(h:Z12 a)(k:Z12 b):Z12 (Fp12.ka a b):=by
 refine (Z12_iff _).2 ?_
 have:=Fp12.ka_congr ((Z12_iff a).1 h) ((Z12_iff b).1 k)
 rwa [Fp12.ka_zero] at this
def FK:Ec.Fd K where
 toRg:=RK
 Z:=Z12
 z0:=(Z12_iff _).2 E12.rfl
 za:=fun {a b} h k=>z12_add h k
 zm:=fun {a} b h=>km_zl h
 zd:=fun {a b} h=>by
  by_cases ha:Z12 a
  ·exact .inl ha
  ·exact .inr (km_zero h ha)
 inv:=ki
 zi:=fun {a} h=>by
  have h1:=Fp12.ka_congr (km_ki h) (E12.rfl (p:=e2 (-1,0)))
  have h2:Fp12.ka k1 (e2 (-1,0))=(O36,O36):=by decide
  rw[h2] at h1
  exact (Z12_iff _).2 h1
 ze:=fun {n}=>⟨fun h=>h.1.1.1,fun h=>⟨⟨⟨h,rfl⟩,⟨rfl,rfl⟩,⟨rfl,rfl⟩⟩,⟨rfl,rfl⟩,⟨rfl,rfl⟩,⟨rfl,rfl⟩⟩⟩
theorem km_m1 (b:K):Fp12.km (e2 (-1,0)) b=Fp12.kn b:=by
 rw[Fp12.km_comm,show e2 (-1,0)=sc k1 (-1) by decide,km_sc,Fp12.km_one]
 obtain⟨⟨⟨a0,a1⟩,⟨b0,b1⟩,c0,c1⟩,⟨d0,d1⟩,⟨e0,e1⟩,f0,f1⟩:=b
 simp[sc,sh,gk,Fp12.kn,Fp6.hn,gn]
theorem fk_eq {a b:K}:FK.eq a b↔E12 a b:=by
 have e:FK.eq a b↔Z12 (Fp12.ks a b):=by
  show Z12 (Fp12.ka a (Fp12.km (e2 (-1,0)) b))↔_
  rw[km_m1,Fp12.ks_eq]
 rw[e]
 constructor
 ·intro h
  exact⟨hs_z h.1,hs_z h.2⟩
 ·intro h
  refine (Z12_iff _).2 ?_
  have:=Fp12.ks_congr h (E12.rfl (p:=b))
  rwa [Fp12.ks_eq b,Fp12.ka_kn] at this
section
variable {α:Type} (F:Ec.Fd α)
def stU:Setoid { a:α // ¬F.Z a }:=⟨fun a b=>F.eq a.1 b.1,⟨fun a=>F.refl _,fun h=>F.symm h,fun h k=>F.trans h k⟩⟩
def UT:=Quotient (stU F)
def uk (a:α)(h:¬F.Z a):UT F:=Quotient.mk (stU F) ⟨a,h⟩
theorem uk_eq {a b:α}{h:¬F.Z a}{k:¬F.Z b}(e:F.eq a b):uk F a h=uk F b k:=Quotient.sound (s:=stU F) e
theorem eq_uk {a b:α}{h:¬F.Z a}{k:¬F.Z b}(e:uk F a h=uk F b k):F.eq a b:=Quotient.exact (s:=stU F) e
theorem uk_ex (x:UT F):∃a h,x=uk F a h:=Quotient.inductionOn x (fun a=>⟨a.1,a.2,rfl⟩)
theorem mul_ne {a b:α}(h:¬F.Z a)(k:¬F.Z b):¬F.Z (F.mul a b):=fun z=>(F.zd z).elim h k
theorem one_ne:¬F.Z (F.int 1):=nz_int F (by decide +kernel)
theorem inv_one {a:α}(h:¬F.Z a):F.eq (F.mul a (F.inv a)) (F.int 1):=by
 have e:F.mul (F.int (-1)) (F.int 1)=F.int (-1):=F.mul_one _
 show F.Z (F.add (F.mul a (F.inv a)) (F.mul (F.int (-1)) (F.int 1)))
 rw[e]
 exact F.zi h
theorem inv_ne {a:α}(h:¬F.Z a):¬F.Z (F.inv a):=fun z=>one_ne F (F.Z_of (inv_one F h) (F.zm' _ z))
def mulU (x y:UT F):UT F:=Quotient.liftOn₂ x y (fun a b=>uk F (F.mul a.1 b.1) (mul_ne F a.2 b.2)) (fun a b a' b' h k=>uk_eq F (F.mul_eq h k))
def invU (x:UT F):UT F:=Quotient.liftOn x (fun a=>uk F (F.inv a.1) (inv_ne F a.2)) (fun a a' h=>uk_eq F (inv_eq F h a.2))
def ug:Ab (UT F) where
 O:=uk F (F.int 1) (one_ne F)
 add:=mulU F
 neg:=invU F
 assoc:=fun x y z=>by
  obtain⟨a,ha,rfl⟩:=uk_ex F x
  obtain⟨b,hb,rfl⟩:=uk_ex F y
  obtain⟨c,hc,rfl⟩:=uk_ex F z
  refine uk_eq F ?_
  show F.eq (F.mul (F.mul a b) c) (F.mul a (F.mul b c))
  rw[F.mul_assoc]
  exact F.refl _
 comm:=fun x y=>by
  obtain⟨a,ha,rfl⟩:=uk_ex F x
  obtain⟨b,hb,rfl⟩:=uk_ex F y
  refine uk_eq F ?_
  show F.eq (F.mul a b) (F.mul b a)
  rw[F.mul_comm]
  exact F.refl _
 zero:=fun x=>by
  obtain⟨a,ha,rfl⟩:=uk_ex F x
  refine uk_eq F ?_
  show F.eq (F.mul a (F.int 1)) a
  rw[F.mul_one]
  exact F.refl _
 inv:=fun x=>by
  obtain⟨a,ha,rfl⟩:=uk_ex F x
  exact uk_eq F (inv_one F ha)
theorem uk_mul {a b:α}{h:¬F.Z a}{k:¬F.Z b}:(ug F).add (uk F a h) (uk F b k)=uk F (F.mul a b) (mul_ne F h k):=rfl
open Classical in
noncomputable def cl (N:Nat)(a:α):UT F:=if h:F.Z a then (ug F).O else (ug F).nx N (uk F a h)
theorem cl_of {N:Nat}{a:α}(h:¬F.Z a):cl F N a=(ug F).nx N (uk F a h):=dif_neg h
theorem cl_cls (N:Nat):Cls F (ug F) (cl F N) where
 eq:=fun {a b} h=>by
  by_cases ha:F.Z a
  ·rw[cl,cl,dif_pos ha,dif_pos (F.Z_of h ha)]
  ·have hb:¬F.Z b:=fun k=>ha (F.Z_of (F.symm h) k)
   rw[cl_of F ha,cl_of F hb,uk_eq F h]
 mul:=fun {a b} ha hb=>by
  rw[cl_of F ha,cl_of F hb,cl_of F (mul_ne F ha hb),←uk_mul,nx_sum]
end
theorem kp_ne {a:K}(h:¬FK.Z a):∀n,¬FK.Z (kp a n)
 |0=>one_ne FK
 |n+1=>mul_ne FK (kp_ne h n) h
theorem uk_kp {a:K}(h:¬FK.Z a):∀n,(ug FK).nx n (uk FK a h)=uk FK (kp a n) (kp_ne h n)
 |0=>rfl
 |n+1=>by
  rw[Ab.nx,uk_kp h n]
  rfl
theorem pn_ne {a:K}(h:¬FK.Z a):∀n,¬FK.Z (pn n a)
 |0=>h
 |n+1=>kp_ne (pn_ne h n) _
theorem uk_pn {a:K}(h:¬FK.Z a):∀n,(ug FK).nx (PP.toNat^n) (uk FK a h)=uk FK (pn n a) (pn_ne h n)
 |0=>nx_one _ _
 |n+1=>by
  rw[Nat.pow_succ,Nat.mul_comm,nx_mul,uk_pn h n,uk_kp]
  rfl
section
variable {N:Nat}
theorem cl_p {a:K}(h:¬FK.Z a):cl FK N (ph a)=(ug FK).nx PP.toNat (cl FK N a):=by
 rw[cl_of FK (show ¬FK.Z (ph a) from kp_ne h _),cl_of FK h,nx_comm,uk_kp h PP.toNat]
 rfl
theorem cl_fix {N':Nat}(hN:N=N'*(PP.toNat^6-1)){a:K}(h:¬FK.Z a)(hf:E12 (Fp12.kc a) a):cl FK N a=(ug FK).O:=by
 rw[cl_of FK h,hN,nx_mul]
 have h1:(ug FK).nx (PP.toNat^6) (uk FK a h)=uk FK a h:=by
  rw[uk_pn]
  exact uk_eq FK (fk_eq.2 ((pn_6 a).trans hf))
 have h2:(ug FK).nx (PP.toNat^6-1) (uk FK a h)=(ug FK).O:=by
  have e:=nx_add (ug FK) (PP.toNat^6-1) (uk FK a h) 1
  rw[Nat.sub_add_cancel (Nat.pow_pos (by decide +kernel)),h1,nx_one,(ug FK).comm] at e
  exact ((ug FK).cancel (x:=uk FK a h) (by rw[←e,(ug FK).zero])).symm
 rw[h2,nx_O]
theorem cl_r {r:Nat}(hN:N*r=PP.toNat^12-1)(a:K):(ug FK).nx r (cl FK N a)=(ug FK).O:=by
 by_cases h:FK.Z a
 ·rw[cl,dif_pos h,nx_O]
 ·rw[cl_of FK h,←nx_mul,Nat.mul_comm,hN]
  have h1:(ug FK).nx (PP.toNat^12) (uk FK a h)=uk FK a h:=by
   rw[uk_pn]
   exact uk_eq FK (fk_eq.2 (pn_12 a))
  have e:=nx_add (ug FK) (PP.toNat^12-1) (uk FK a h) 1
  rw[Nat.sub_add_cancel (Nat.pow_pos (by decide +kernel)),h1,nx_one,(ug FK).comm] at e
  exact ((ug FK).cancel (x:=uk FK a h) (by rw[←e,(ug FK).zero])).symm
theorem cl_conj {N':Nat}(hN:N=N'*(PP.toNat^6-1)){a:K}(h:¬FK.Z a):(ug FK).add (cl FK N a) (cl FK N (Fp12.kc a))=(ug FK).O:=by
 have hk:¬FK.Z (Fp12.kc a):=fun z=>h (FK.Z_of (fk_eq.2 (show E12 (Fp12.kc (Fp12.kc a)) a by rw[Fp12.kc_kc];exact E12.rfl)) (by
  have:=Fp12.kc_congr ((Z12_iff _).1 z)
  exact (Z12_iff _).2 this))
 rw[←(cl_cls FK N).mul h hk]
 refine cl_fix hN (mul_ne FK h hk) ?_
 show E12 (Fp12.kc (Fp12.km a (Fp12.kc a))) (Fp12.km a (Fp12.kc a))
 rw[Fp12.kc_km,Fp12.kc_kc,Fp12.km_comm]
 exact E12.rfl
end
end Pk
namespace Ec
set_option maxRecDepth 100000
open Go Ring Ab
section
variable {α:Type} (F:Fd α)
theorem uw_l {x y l s w X Y:α}(hs:F.Z (F.sub (F.mul w s) (F.int 1))):F.Z (F.sub (F.mul (F.sub (F.sub Y (F.mul y (F.mul (F.mul s s) s))) (F.mul (F.mul s l) (F.sub X (F.mul x (F.mul s s))))) (F.mul (F.mul w w) w)) (F.sub (F.sub (F.mul Y (F.mul (F.mul w w) w)) y) (F.mul l (F.sub (F.mul X (F.mul w w)) x)))):=F.Z_by (fun k_=>match k_ with|0=>x|1=>y|2=>x|3=>x|4=>x|5=>x|6=>l|7=>x|8=>x|9=>x|10=>s|11=>w|12=>X|13=>Y|14=>x|15=>x|16=>x|_=>x) (e:=(.s (.m (.s (.s (.v 13) (.m (.v 1) (.m (.m (.v 10) (.v 10)) (.v 10)))) (.m (.m (.v 10) (.v 6)) (.s (.v 12) (.m (.v 0) (.m (.v 10) (.v 10)))))) (.m (.m (.v 11) (.v 11)) (.v 11))) (.s (.s (.m (.v 13) (.m (.m (.v 11) (.v 11)) (.v 11))) (.v 1)) (.m (.v 6) (.s (.m (.v 12) (.m (.v 11) (.v 11))) (.v 0)))))) (f:=(.m (.a (.a (.a (.a (.a (.a (.m (.n (-1)) (.v 1)) (.m (.v 6) (.v 0))) (.m (.m (.m (.n (-1)) (.v 12)) (.v 6)) (.m (.v 11) (.v 11)))) (.m (.m (.m (.n (-1)) (.v 10)) (.v 11)) (.v 1))) (.m (.m (.m (.n (-1)) (.v 1)) (.m (.v 10) (.v 10))) (.m (.v 11) (.v 11)))) (.m (.m (.m (.v 6) (.v 10)) (.v 11)) (.v 0))) (.m (.m (.m (.v 6) (.v 0)) (.m (.v 10) (.v 10))) (.m (.v 11) (.v 11)))) (.s (.m (.v 11) (.v 10)) (.n 1)))) (by decide +kernel) (F.zm' _ hs)
theorem uw_v {x s w X:α}(hs:F.Z (F.sub (F.mul w s) (F.int 1))):F.Z (F.sub (F.mul (F.sub X (F.mul x (F.mul s s))) (F.mul w w)) (F.sub (F.mul X (F.mul w w)) x)):=F.Z_by (fun k_=>match k_ with|0=>x|1=>x|2=>x|3=>x|4=>x|5=>x|6=>x|7=>x|8=>x|9=>x|10=>s|11=>w|12=>X|13=>x|14=>x|15=>x|16=>x|_=>x) (e:=(.s (.m (.s (.v 12) (.m (.v 0) (.m (.v 10) (.v 10)))) (.m (.v 11) (.v 11))) (.s (.m (.v 12) (.m (.v 11) (.v 11))) (.v 0)))) (f:=(.m (.a (.m (.n (-1)) (.v 0)) (.m (.m (.m (.n (-1)) (.v 10)) (.v 11)) (.v 0))) (.s (.m (.v 11) (.v 10)) (.n 1)))) (by decide +kernel) (F.zm' _ hs)
theorem uw_o {x y s w m u v:α}(hs:F.Z (F.sub (F.mul w s) (F.int 1))):F.Z (F.sub (F.mul (F.sub (F.sub (F.mul y (F.mul (F.mul s s) s)) v) (F.mul m (F.sub (F.mul x (F.mul s s)) u))) (F.mul (F.mul w w) w)) (F.sub (F.sub y (F.mul v (F.mul (F.mul w w) w))) (F.mul m (F.sub (F.mul x w) (F.mul u (F.mul (F.mul w w) w)))))):=F.Z_by (fun k_=>match k_ with|0=>x|1=>y|2=>x|3=>x|4=>x|5=>x|6=>x|7=>x|8=>x|9=>x|10=>s|11=>w|12=>x|13=>x|14=>x|15=>m|16=>u|_=>v) (e:=(.s (.m (.s (.s (.m (.v 1) (.m (.m (.v 10) (.v 10)) (.v 10))) (.v 17)) (.m (.v 15) (.s (.m (.v 0) (.m (.v 10) (.v 10))) (.v 16)))) (.m (.m (.v 11) (.v 11)) (.v 11))) (.s (.s (.v 1) (.m (.v 17) (.m (.m (.v 11) (.v 11)) (.v 11)))) (.m (.v 15) (.s (.m (.v 0) (.v 11)) (.m (.v 16) (.m (.m (.v 11) (.v 11)) (.v 11)))))))) (f:=(.m (.a (.a (.a (.a (.v 1) (.m (.m (.v 10) (.v 11)) (.v 1))) (.m (.m (.v 1) (.m (.v 10) (.v 10))) (.m (.v 11) (.v 11)))) (.m (.m (.m (.n (-1)) (.v 15)) (.v 11)) (.v 0))) (.m (.m (.m (.m (.n (-1)) (.v 15)) (.v 10)) (.v 0)) (.m (.v 11) (.v 11)))) (.s (.m (.v 11) (.v 10)) (.n 1)))) (by decide +kernel) (F.zm' _ hs)
theorem uw_q {x y s w m u v:α}(hs:F.Z (F.sub (F.mul w s) (F.int 1))):F.Z (F.sub (F.mul (F.sub (F.sub (F.sub (F.int 0) (F.mul y (F.mul (F.mul s s) s))) v) (F.mul m (F.sub (F.mul x (F.mul s s)) u))) (F.mul (F.mul w w) w)) (F.sub (F.sub (F.sub (F.int 0) y) (F.mul v (F.mul (F.mul w w) w))) (F.mul m (F.sub (F.mul x w) (F.mul u (F.mul (F.mul w w) w)))))):=F.Z_by (fun k_=>match k_ with|0=>x|1=>y|2=>x|3=>x|4=>x|5=>x|6=>x|7=>x|8=>x|9=>x|10=>s|11=>w|12=>x|13=>x|14=>x|15=>m|16=>u|_=>v) (e:=(.s (.m (.s (.s (.s (.n 0) (.m (.v 1) (.m (.m (.v 10) (.v 10)) (.v 10)))) (.v 17)) (.m (.v 15) (.s (.m (.v 0) (.m (.v 10) (.v 10))) (.v 16)))) (.m (.m (.v 11) (.v 11)) (.v 11))) (.s (.s (.s (.n 0) (.v 1)) (.m (.v 17) (.m (.m (.v 11) (.v 11)) (.v 11)))) (.m (.v 15) (.s (.m (.v 0) (.v 11)) (.m (.v 16) (.m (.m (.v 11) (.v 11)) (.v 11)))))))) (f:=(.m (.a (.a (.a (.a (.m (.n (-1)) (.v 1)) (.m (.m (.m (.n (-1)) (.v 15)) (.v 11)) (.v 0))) (.m (.m (.m (.n (-1)) (.v 10)) (.v 11)) (.v 1))) (.m (.m (.m (.n (-1)) (.v 1)) (.m (.v 10) (.v 10))) (.m (.v 11) (.v 11)))) (.m (.m (.m (.m (.n (-1)) (.v 15)) (.v 10)) (.v 0)) (.m (.v 11) (.v 11)))) (.s (.m (.v 11) (.v 10)) (.n 1)))) (by decide +kernel) (F.zm' _ hs)
theorem uw_b {b s w:α}(hs:F.Z (F.sub (F.mul w s) (F.int 1))):F.Z (F.sub (F.mul (F.mul b (F.mul (F.mul (F.mul (F.mul (F.mul w w) w) w) w) w)) (F.mul (F.mul (F.mul s s) s) (F.mul (F.mul s s) s))) b):=F.Z_by (fun k_=>match k_ with|0=>b|1=>b|2=>b|3=>b|4=>b|5=>b|6=>b|7=>b|8=>b|9=>b|10=>s|11=>w|12=>b|13=>b|14=>b|15=>b|16=>b|_=>b) (e:=(.s (.m (.m (.v 9) (.m (.m (.m (.m (.m (.v 11) (.v 11)) (.v 11)) (.v 11)) (.v 11)) (.v 11))) (.m (.m (.m (.v 10) (.v 10)) (.v 10)) (.m (.m (.v 10) (.v 10)) (.v 10)))) (.v 9))) (f:=(.m (.a (.a (.a (.a (.a (.v 9) (.m (.m (.v 9) (.v 10)) (.v 11))) (.m (.m (.v 9) (.m (.v 10) (.v 10))) (.m (.v 11) (.v 11)))) (.m (.m (.v 9) (.m (.m (.v 10) (.v 10)) (.v 10))) (.m (.m (.v 11) (.v 11)) (.v 11)))) (.m (.m (.v 9) (.m (.m (.m (.v 10) (.v 10)) (.v 10)) (.v 10))) (.m (.m (.m (.v 11) (.v 11)) (.v 11)) (.v 11)))) (.m (.m (.v 9) (.m (.m (.m (.m (.v 10) (.v 10)) (.v 10)) (.v 10)) (.v 10))) (.m (.m (.m (.m (.v 11) (.v 11)) (.v 11)) (.v 11)) (.v 11)))) (.s (.m (.v 11) (.v 10)) (.n 1)))) (by decide +kernel) (F.zm' _ hs)
theorem uw_t {s w t:α}(hs:F.Z (F.sub (F.mul w s) (F.int 1)))(ht:F.Z (F.sub (F.mul (F.sub (F.int 0) w) t) (F.int 1))):F.Z (F.sub (F.mul t t) (F.mul s s)):=F.Z_by (fun k_=>match k_ with|0=>s|1=>s|2=>s|3=>s|4=>s|5=>s|6=>s|7=>s|8=>s|9=>s|10=>s|11=>w|12=>s|13=>s|14=>t|15=>s|16=>s|_=>s) (e:=(.s (.m (.v 14) (.v 14)) (.m (.v 10) (.v 10)))) (f:=(.a (.m (.a (.m (.n (-1)) (.m (.v 14) (.v 14))) (.m (.v 10) (.v 14))) (.s (.m (.v 11) (.v 10)) (.n 1))) (.m (.a (.m (.v 10) (.v 10)) (.m (.m (.n (-1)) (.v 10)) (.v 14))) (.s (.m (.s (.n 0) (.v 11)) (.v 14)) (.n 1))))) (by decide +kernel) (F.za (F.zm' _ hs) (F.zm' _ ht))
theorem ut_n1 {l s:α}  : F.Z (F.sub (F.mul s (F.sub (F.int 0) l)) (F.sub (F.int 0) (F.mul s l))):=F.Z_by (fun k_=>match k_ with|0=>l|1=>l|2=>l|3=>l|4=>l|5=>l|6=>l|7=>l|8=>l|9=>l|10=>s|11=>l|12=>l|13=>l|14=>l|15=>l|16=>l|_=>l) (e:=(.s (.m (.v 10) (.s (.n 0) (.v 6))) (.s (.n 0) (.m (.v 10) (.v 6))))) (f:=(.n 0)) (by decide +kernel) F.z0
theorem ut_n2 {y s:α}  : F.Z (F.sub (F.mul (F.sub (F.int 0) y) (F.mul (F.mul s s) s)) (F.sub (F.int 0) (F.mul y (F.mul (F.mul s s) s)))):=F.Z_by (fun k_=>match k_ with|0=>y|1=>y|2=>y|3=>y|4=>y|5=>y|6=>y|7=>y|8=>y|9=>y|10=>s|11=>y|12=>y|13=>y|14=>y|15=>y|16=>y|_=>y) (e:=(.s (.m (.s (.n 0) (.v 1)) (.m (.m (.v 10) (.v 10)) (.v 10))) (.s (.n 0) (.m (.v 1) (.m (.m (.v 10) (.v 10)) (.v 10)))))) (f:=(.n 0)) (by decide +kernel) F.z0
end
end Ec
namespace Pk
set_option maxRecDepth 100000
open Go Ring Ab Ec Fp Fp2 Fp6 Fp12 Frob
theorem e2_add (a b:G):e2 (ga a b)=Fp12.ka (e2 a) (e2 b):=by
 refine Prod.ext (hext rfl ?_ ?_) ?_<;>rfl
theorem hm2:Hm FG FK e2 where
 add:=fun a b=>e2_add a b
 mul:=fun a b=>(e2_mul a b).symm
 int:=fun n=>rfl
 z:=fun a=>⟨fun h=>⟨⟨h,⟨rfl,rfl⟩,⟨rfl,rfl⟩⟩,⟨rfl,rfl⟩,⟨rfl,rfl⟩,⟨rfl,rfl⟩⟩,fun h=>h.1.1⟩
theorem hm1:Hm FI FK (fun x=>e2 (x,0)) where
 add:=fun a b=>by
  show e2 (a+b,0)=Fp12.ka (e2 (a,0)) (e2 (b,0))
  rw[←e2_add]
  rfl
 mul:=fun a b=>by
  show e2 (a*b,0)=Fp12.km (e2 (a,0)) (e2 (b,0))
  rw[e2_mul]
  congr 1
  apply Prod.ext<;>simp[gm]
 int:=fun n=>rfl
 z:=fun a=>FK.ze.symm
def s:K:=ki ww
theorem ww_ne:¬FK.Z ww:=fun h=>absurd h.2.1.1 (by decide +kernel)
theorem hs:FK.Z (FK.sub (FK.mul ww s) (FK.int 1)):=fk_eq.2 (km_ki ww_ne)
theorem s_ne:¬FK.Z s:=ki_ne ww_ne
theorem hb_ut:FK.eq (FK.mul (e2 (4,4)) (FK.mul (FK.mul (FK.mul s s) s) (FK.mul (FK.mul s s) s))) (FK.int 4):=by
 have e:e2 (4,4)=FK.mul (FK.int 4) (FK.mul (FK.mul (FK.mul (FK.mul (FK.mul ww ww) ww) ww) ww) ww):=by decide
 rw[e]
 exact uw_b FK hs
theorem w2_:FK.mul ww ww=(((0,0),(1,0),(0,0)),O36):=by decide
theorem w3_:FK.mul (FK.mul ww ww) ww=(O36,((0,0),(1,0),(0,0))):=by decide
section
variable {x0 y0:Int}
theorem lin_ne (hy:y0%PP≠0)(l x y:G):¬FK.Z (lnv FK (FK.mul s (e2 l)) (FK.mul (e2 x) (FK.mul s s)) (FK.mul (e2 y) (FK.mul (FK.mul s s) s)) (e2 (x0,0)) (e2 (y0,0))):=fun h=>by
 have h1:=FK.Z_of (uw_l FK (X:=e2 (x0,0)) (Y:=e2 (y0,0)) (l:=e2 l) (x:=e2 x) (y:=e2 y) hs) (FK.zm _ h)
 rw[w3_,w2_] at h1
 obtain⟨l0,l1⟩:=l
 obtain⟨a0,a1⟩:=x
 obtain⟨b0,b1⟩:=y
 have h2:=h1.2.2.1.1
 simp[Ec.Fd.sub,FK,RK,Fp12.km,Fp12.ka,Fp6.ha,Fp6.hm,Fp6.hv,ga,gm,gx,e2,O36] at h2
 exact hy h2
theorem ver_ne (hx:x0%PP≠0)(x:G):¬FK.Z (FK.sub (e2 (x0,0)) (FK.mul (e2 x) (FK.mul s s))):=fun h=>by
 have h1:=FK.Z_of (uw_v FK (X:=e2 (x0,0)) (x:=e2 x) hs) (FK.zm _ h)
 rw[w2_] at h1
 obtain⟨a0,a1⟩:=x
 have h2:=h1.1.2.1.1
 simp[Ec.Fd.sub,FK,RK,Fp12.km,Fp12.ka,Fp6.ha,Fp6.hm,Fp6.hv,ga,gm,gx,e2,O36] at h2
 exact hx h2
theorem off_1 (m u v:Int){x y:G}(hy:¬FG.Z y):¬FK.Z (lnv FK (e2 (m,0)) (e2 (u,0)) (e2 (v,0)) (FK.mul (e2 x) (FK.mul s s)) (FK.mul (e2 y) (FK.mul (FK.mul s s) s))):=fun h=>by
 have h1:=FK.Z_of (uw_o FK (m:=e2 (m,0)) (u:=e2 (u,0)) (v:=e2 (v,0)) (x:=e2 x) (y:=e2 y) hs) (FK.zm _ h)
 rw[w3_] at h1
 obtain⟨a0,a1⟩:=x
 obtain⟨b0,b1⟩:=y
 have h2:=h1.1.1.1
 have h3:=h1.1.1.2
 simp[Ec.Fd.sub,FK,RK,Fp12.km,Fp12.ka,Fp6.ha,Fp6.hm,Fp6.hv,ga,gm,gx,e2,O36,ww] at h2 h3
 exact hy ⟨h2,h3⟩
theorem off_2 (m u v:Int){x y:G}(hy:¬FG.Z y):¬FK.Z (lnv FK (e2 (m,0)) (e2 (u,0)) (e2 (v,0)) (FK.mul (e2 x) (FK.mul s s)) (FK.sub (FK.int 0) (FK.mul (e2 y) (FK.mul (FK.mul s s) s)))):=fun h=>by
 have h1:=FK.Z_of (uw_q FK (m:=e2 (m,0)) (u:=e2 (u,0)) (v:=e2 (v,0)) (x:=e2 x) (y:=e2 y) hs) (FK.zm _ h)
 rw[w3_] at h1
 obtain⟨a0,a1⟩:=x
 obtain⟨b0,b1⟩:=y
 have h2:=h1.1.1.1
 have h3:=h1.1.1.2
 simp[Ec.Fd.sub,FK,RK,Fp12.km,Fp12.ka,Fp6.ha,Fp6.hm,Fp6.hv,ga,gm,gx,e2,O36,ww] at h2 h3
 have ng:∀z:Int,(-z)%PP=0→z%PP=0:=fun z h=>Int.emod_eq_zero_of_dvd (Int.dvd_neg.1 (Int.dvd_of_emod_eq_zero h))
 first
  |exact hy ⟨h2,h3⟩
  |exact hy ⟨ng _ h2,ng _ h3⟩
theorem kc_e2 (g:G):Fp12.kc (e2 g)=e2 g:=rfl
theorem kc_ss:E12 (Fp12.kc (FK.mul s s)) (FK.mul s s):=by
 have h1:E12 (Fp12.km (Fp12.kc ww) (Fp12.kc s)) (Fp12.kc k1):=by
  rw[←Fp12.kc_km]
  exact Fp12.kc_congr (km_ki ww_ne)
 have e1:Fp12.kc ww=FK.sub (FK.int 0) ww:=by decide
 have e2':Fp12.kc k1=FK.int 1:=by decide
 rw[e1,e2'] at h1
 have h2:FK.Z (FK.sub (FK.mul (FK.sub (FK.int 0) ww) (Fp12.kc s)) (FK.int 1)):=fk_eq.2 h1
 have h3:=fk_eq.1 (uw_t FK hs h2)
 show E12 (Fp12.kc (Fp12.km s s)) (Fp12.km s s)
 rw[Fp12.kc_km]
 exact h3
theorem kc_ver (x0:Int)(x:G):E12 (Fp12.kc (FK.sub (e2 (x0,0)) (FK.mul (e2 x) (FK.mul s s)))) (FK.sub (e2 (x0,0)) (FK.mul (e2 x) (FK.mul s s))):=by
 show E12 (Fp12.kc (Fp12.ka (e2 (x0,0)) (Fp12.km (e2 (-1,0)) (Fp12.km (e2 x) (FK.mul s s))))) (Fp12.ka (e2 (x0,0)) (Fp12.km (e2 (-1,0)) (Fp12.km (e2 x) (FK.mul s s))))
 rw[Fp12.kc_ka,Fp12.kc_km,Fp12.kc_km,kc_e2,kc_e2,kc_e2]
 exact Fp12.ka_congr E12.rfl (Fp12.km_congr E12.rfl (Fp12.km_congr E12.rfl kc_ss))
abbrev ut:Pt G→Pt K:=utP e2 FK s
theorem ut_on_ {A:Pt G}(h:OnP FG (4,4) A):OnP FK (FK.int 4) (ut A):=ut_on FG hm2 s hb_ut h
theorem b4_ne:¬FK.Z (FK.int 4):=nz_int FK (by decide +kernel)
variable {N N':Nat} (hN:N=N'*(PP.toNat^6-1))
include hN
theorem gd (hx:x0%PP≠0)(A:Pt G):Gd FK (ug FK) (cl FK N) (e2 (x0,0)) (ut A):=by
 rcases A with _|⟨x,y⟩
 ·trivial
 ·exact⟨ver_ne hx x,cl_fix hN (ver_ne hx x) (kc_ver x0 x)⟩
omit hN in
theorem h_ex (hy:y0%PP≠0){A B:Pt G}(a:OnP FG (4,4) A)(e:OnP FG (4,4) B):∃u,HV FK (ug FK) (cl FK N) (e2 (x0,0)) (e2 (y0,0)) (ut A) (ut B) u:=by
 rcases A with _|⟨x1,y1⟩
 ·exact⟨_,.zl⟩
 rcases B with _|⟨x2,y2⟩
 ·exact⟨_,.zr⟩
 by_cases ho:Opp FG x1 y1 x2 y2
 ·exact⟨_,.op ((ut_opp FG hm2 s s_ne).1 ho)⟩
 ·obtain⟨l,hl⟩:=slope_ex FG a e ho
  exact⟨_,.sl (fun k=>ho ((ut_opp FG hm2 s s_ne).2 k)) (ut_slope FG hm2 s hl) (lin_ne hy l x1 y1)⟩
omit hN in
theorem hq_ex (N:Nat)(hy:y0%PP≠0)(p q:EG FG (4,4)):∃u,∀A a B e,p=mk FG A a→q=mk FG B e→HV FK (ug FK) (cl FK N) (e2 (x0,0)) (e2 (y0,0)) (ut A) (ut B) u:=by
 obtain⟨A,a,rfl⟩:=mk_ex FG p
 obtain⟨B,e,rfl⟩:=mk_ex FG q
 obtain⟨u,hu⟩:=h_ex (N:=N) (x0:=x0) hy a e
 refine⟨u,fun A' a' B' e' h1 h2=>?_⟩
 exact hv_eq FK (ug FK) (cl_cls FK N) (ut_eq FG hm2 s (eq_mk FG h1)) (ut_eq FG hm2 s (eq_mk FG h2)) hu
omit hN in
open Classical in
noncomputable def hq (N:Nat)(x0 y0:Int)(p q:EG FG (4,4)):UT FK:=if hy:y0%PP≠0 then Classical.choose (hq_ex (x0:=x0) N hy p q) else (ug FK).O
omit hN in
theorem hq_of (hy:y0%PP≠0){A B:Pt G}(a:OnP FG (4,4) A)(e:OnP FG (4,4) B):HV FK (ug FK) (cl FK N) (e2 (x0,0)) (e2 (y0,0)) (ut A) (ut B) (hq N x0 y0 (mk FG A a) (mk FG B e)):=by
 rw[hq,dif_pos hy]
 exact Classical.choose_spec (hq_ex (x0:=x0) N hy (mk FG A a) (mk FG B e)) A a B e rfl rfl
variable (hx:x0%PP≠0) (hy:y0%PP≠0)
include hy
omit hN in
theorem hq_0 (q:EG FG (4,4)):hq N x0 y0 Ord2.E2_.O q=(ug FK).O:=by
 obtain⟨B,e,rfl⟩:=mk_ex FG q
 exact hv_un FK (ug FK) (cl_cls FK N) (hq_of (N:=N) (x0:=x0) hy (A:=none) trivial e) .zl
omit hN in
theorem hq_c (p q:EG FG (4,4)):hq N x0 y0 p q=hq N x0 y0 q p:=by
 obtain⟨A,a,rfl⟩:=mk_ex FG p
 obtain⟨B,e,rfl⟩:=mk_ex FG q
 exact hv_un FK (ug FK) (cl_cls FK N) (hq_of (N:=N) (x0:=x0) hy a e) (hv_comm FK (ug FK) (cl_cls FK N) (hq_of (N:=N) (x0:=x0) hy e a))
include hx
theorem hq_h (hP:On FK (FK.int 4) (e2 (x0,0)) (e2 (y0,0)))(p q r:EG FG (4,4)):(ug FK).add (hq N x0 y0 p q) (hq N x0 y0 (Ord2.E2_.add p q) r)=(ug FK).add (hq N x0 y0 q r) (hq N x0 y0 p (Ord2.E2_.add q r)):=by
 obtain⟨A,a,rfl⟩:=mk_ex FG p
 obtain⟨B,e,rfl⟩:=mk_ex FG q
 obtain⟨C,c,rfl⟩:=mk_ex FG r
 obtain⟨D,hD,d⟩:=sum_ex FG a e
 obtain⟨E,hE,f⟩:=sum_ex FG e c
 have e1:Ord2.E2_.add (mk FG A a) (mk FG B e)=mk FG D d:=add_mk FG hD
 have e3:Ord2.E2_.add (mk FG B e) (mk FG C c)=mk FG E f:=add_mk FG hE
 rw[e1,e3]
 exact hv_co FK (ug FK) (cl_cls FK N) b4_ne hP (ut_on_ a) (ut_on_ e) (ut_on_ c) (ut_sum FG hm2 s s_ne hD) (ut_sum FG hm2 s s_ne hE) (gd hN hx A) (gd hN hx B) (gd hN hx C) (gd hN hx D) (gd hN hx E)
  (hq_of hy a e) (hq_of hy d c) (hq_of hy e c) (hq_of hy a f)
end
end Pk
namespace Ab
section
variable {ε γ:Type} (E:Ab ε) (A:Ab γ) {h:ε→ε→γ}
def chn (h:ε→ε→γ):Nat→ε→γ
 |0,_=>A.O
 |n+1,x=>A.add (chn h n x) (h (E.nx n x) x)
theorem Ab.cancel_r {x y z:γ}(e:A.add x z=A.add y z):x=y:=by
 rw[A.comm x,A.comm y] at e
 exact A.cancel e
variable (h0:∀x,h E.O x=A.O) (hc:∀x y,h x y=h y x) (hh:∀x y z,A.add (h x y) (h (E.add x y) z)=A.add (h y z) (h x (E.add y z)))
include h0 hc hh
theorem chn_add (m:Nat)(x:ε):∀n,chn E A h (m+n) x=A.add (A.add (chn E A h m x) (chn E A h n x)) (h (E.nx m x) (E.nx n x))
 |0=>by
  rw[Nat.add_zero,chn,A.zero,show E.nx 0 x=E.O from rfl,hc,h0,A.zero]
 |n+1=>by
  rw[←Nat.add_assoc,chn,chn_add m x n,chn,nx_add,A.assoc,hh,show E.nx (n+1) x=E.add (E.nx n x) x from rfl]
  rw[A.assoc,A.assoc,A.assoc]
theorem four (a b c d:ε):A.add (A.add (h a b) (h c d)) (h (E.add a b) (E.add c d))=A.add (A.add (h a c) (h b d)) (h (E.add a c) (E.add b d)):=by
 -- h a b+h (a+b) (c+d)+h c d: bracket c,d
 have e1:=hh (E.add a b) c d
 have e2:=hh (E.add a c) b d
 have e3:=hh a b c
 have e4:=hh a c b
 have s1:E.add (E.add a b) c=E.add (E.add a c) b:=by rw[E.assoc,E.comm b c,←E.assoc]
 have s2:E.add b c=E.add c b:=E.comm _ _
 rw[s1] at e1
 rw[s2,hc b c] at e3
 -- h a b+h (a+b) c=h a c+h (a+c) b
 have e5:A.add (h a b) (h (E.add a b) c)=A.add (h a c) (h (E.add a c) b):=e3.trans e4.symm
 -- sum up
 refine A.cancel_r (z:=A.O) ?_
 rw[A.zero,A.zero]
 have l1:A.add (A.add (h a b) (h c d)) (h (E.add a b) (E.add c d))=A.add (h a b) (A.add (h (E.add a b) c) (h (E.add (E.add a c) b) d)):=by rw[A.assoc,e1]
 have l2:A.add (A.add (h a c) (h b d)) (h (E.add a c) (E.add b d))=A.add (h a c) (A.add (h (E.add a c) b) (h (E.add (E.add a c) b) d)):=by rw[A.assoc,e2]
 rw[l1,l2,←A.assoc,←A.assoc,e5]
theorem chn_lin (x y:ε):∀n,A.add (chn E A h n (E.add x y)) (A.nx n (h x y))=A.add (A.add (chn E A h n x) (chn E A h n y)) (h (E.nx n x) (E.nx n y))
 |0=>by
  simp only[chn,Ab.nx]
  rw[h0,A.zero,A.zero]
 |n+1=>by
  have ih:=chn_lin x y n
  have f:=four E A h0 hc hh (E.nx n x) (E.nx n y) x y
  rw[chn,chn,chn,show A.nx (n+1) (h x y)=A.add (A.nx n (h x y)) (h x y) from rfl,nx_sum,show E.nx (n+1) x=E.add (E.nx n x) x from rfl,show E.nx (n+1) y=E.add (E.nx n y) y from rfl]
  -- (c+H)+(N+hxy)=((cx+hx)+(cy+hy))+h'
  rw[A.swap (chn E A h n (E.add x y)),ih]
  rw[A.swap (chn E A h n x),A.assoc (A.add (chn E A h n x) (chn E A h n y)),A.assoc (A.add (chn E A h n x) (chn E A h n y)),←f,A.comm (h (E.add (E.nx n x) (E.nx n y)) (E.add x y))]
  simp only[A.assoc]
end
section
variable {ε γ:Type} (E:Ab ε) (A:Ab γ)
theorem chn_bd {g:ε→γ}(g0:g E.O=A.O){h:ε→ε→γ}(hb:∀x y,A.add (h x y) (g (E.add x y))=A.add (g x) (g y))(x:ε):∀n,A.add (chn E A h n x) (g (E.nx n x))=A.nx n (g x)
 |0=>by
  simp only[chn,Ab.nx]
  rw[g0,A.zero]
 |n+1=>by
  have ih:=chn_bd g0 hb x n
  rw[chn,show E.nx (n+1) x=E.add (E.nx n x) x from rfl,A.assoc,hb,←A.assoc,ih]
  rfl
theorem chn_add2 {h h':ε→ε→γ}(x:ε):∀n,chn E A (fun a b=>A.add (h a b) (h' a b)) n x=A.add (chn E A h n x) (chn E A h' n x)
 |0=>by simp only[chn];rw[A.zero]
 |n+1=>by rw[chn,chn_add2 x n,chn,chn,A.swap]
end
end Ab
namespace Pk
set_option maxRecDepth 100000
open Go Ring Ab Ec Fp Fp2 Fp6 Fp12 Frob
theorem phq_add (a b:K):FK.eq (ph (FK.add a b)) (FK.add (ph a) (ph b)):=fk_eq.2 (ph_add a b)
theorem phq_mul (a b:K):FK.eq (ph (FK.mul a b)) (FK.mul (ph a) (ph b)):=by
 rw[show ph (FK.mul a b)=FK.mul (ph a) (ph b) from ph_mul a b]
 exact FK.refl _
theorem phq_int (n:Int):FK.eq (ph (FK.int n)) (FK.int n):=by
 refine fk_eq.2 ((ph_e2 (n,0)).trans ?_)
 have:gc (n,0)=(n,0):=by simp[gc]
 rw[this]
 exact E12.rfl
theorem phq_sub (a b:K):FK.eq (ph (FK.sub a b)) (FK.sub (ph a) (ph b)):=
 FK.trans (phq_add a _) (FK.add_eq (FK.refl _) (FK.trans (phq_mul _ _) (FK.mul_eq (phq_int _) (FK.refl _))))
theorem phq_eq {a b:K}(h:FK.eq a b):FK.eq (ph a) (ph b):=fk_eq.2 (ph_congr (fk_eq.1 h))
theorem phq_z {a:K}(h:FK.Z a):FK.Z (ph a):=ph_zero h
theorem phq_ne {a:K}(h:¬FK.Z a):¬FK.Z (ph a):=kp_ne h _
theorem phq_iz {a:K}(h:FK.Z (ph a)):FK.Z a:=by
 refine Classical.byContradiction fun k=>phq_ne k h
def fP:Pt K→Pt K
 |none=>none
 |some (x,y)=>some (ph x,ph y)
theorem fP_eq {A B:Pt K}(h:EqP FK A B):EqP FK (fP A) (fP B):=by
 rcases A with _|⟨x,y⟩<;>rcases B with _|⟨x',y'⟩
 ·trivial
 ·exact h.elim
 ·exact h.elim
 ·exact⟨phq_eq h.1,phq_eq h.2⟩
theorem fP_opp {x1 y1 x2 y2:K}:Opp FK x1 y1 x2 y2↔Opp FK (ph x1) (ph y1) (ph x2) (ph y2):=
 ⟨fun h=>⟨FK.Z_of (phq_sub _ _) (phq_z h.1),FK.Z_of (phq_add _ _) (phq_z h.2)⟩,fun h=>⟨phq_iz (FK.Z_of (FK.symm (phq_sub _ _)) h.1),phq_iz (FK.Z_of (FK.symm (phq_add _ _)) h.2)⟩⟩
theorem fP_slope {l x1 y1 x2 y2:K}(h:Slope FK l x1 y1 x2 y2):Slope FK (ph l) (ph x1) (ph y1) (ph x2) (ph y2) where
 c3:=FK.Z_of (FK.trans (phq_sub _ _) (FK.sub_eq (phq_sub _ _) (FK.trans (phq_mul _ _) (FK.mul_eq (FK.refl _) (phq_sub _ _))))) (phq_z h.c3)
 cc:=FK.Z_of (FK.trans (phq_sub _ _) (FK.sub_eq (FK.trans (phq_mul _ _) (FK.mul_eq (FK.refl _) (phq_add _ _))) (FK.trans (phq_add _ _) (FK.add_eq (FK.trans (phq_add _ _) (FK.add_eq (phq_mul _ _) (phq_mul _ _))) (phq_mul _ _))))) (phq_z h.cc)
theorem fP_lnv (l x1 y1 X Y:K):FK.eq (ph (lnv FK l x1 y1 X Y)) (lnv FK (ph l) (ph x1) (ph y1) (ph X) (ph Y)):=
 FK.trans (phq_sub _ _) (FK.sub_eq (phq_sub _ _) (FK.trans (phq_mul _ _) (FK.mul_eq (FK.refl _) (phq_sub _ _))))
theorem fP_sum {A B C:Pt K}(h:Ec.Sum FK A B C):Ec.Sum FK (fP A) (fP B) (fP C):=by
 cases h with
 |zl h=>exact .zl (fP_eq h)
 |zr h=>exact .zr (fP_eq h)
 |op h=>exact .op (fP_opp.1 h)
 |sl ho hl hx hy=>
  refine .sl (fun k=>ho (fP_opp.2 k)) (fP_slope hl) ?_ ?_
  ·exact FK.trans (phq_eq hx) (FK.trans (phq_sub _ _) (FK.sub_eq (FK.trans (phq_sub _ _) (FK.sub_eq (phq_mul _ _) (FK.refl _))) (FK.refl _)))
  ·exact FK.trans (phq_eq hy) (FK.trans (phq_sub _ _) (FK.sub_eq (FK.trans (phq_mul _ _) (FK.mul_eq (FK.refl _) (phq_sub _ _))) (FK.refl _)))
section
variable {N N':Nat} {x0 y0:Int}
theorem ph_fix (n:Int):FK.eq (ph (e2 (n,0))) (e2 (n,0)):=phq_int n
theorem fP_hv {A B:Pt K}{u:UT FK}(h:HV FK (ug FK) (cl FK N) (e2 (x0,0)) (e2 (y0,0)) A B u):HV FK (ug FK) (cl FK N) (e2 (x0,0)) (e2 (y0,0)) (fP A) (fP B) ((ug FK).nx PP.toNat u):=by
 cases h with
 |zl=>
  rw[nx_O]
  exact .zl
 |zr=>
  rw[nx_O]
  exact .zr
 |op h=>
  rw[nx_O]
  exact .op (fP_opp.1 h)
 |@sl x1 y1 x2 y2 l ho hl hz=>
  have e:FK.eq (ph (lnv FK l x1 y1 (e2 (x0,0)) (e2 (y0,0)))) (lnv FK (ph l) (ph x1) (ph y1) (e2 (x0,0)) (e2 (y0,0))):=
   FK.trans (fP_lnv _ _ _ _ _) (FK.sub_eq (FK.sub_eq (ph_fix _) (FK.refl _)) (FK.mul_eq (FK.refl _) (FK.sub_eq (ph_fix _) (FK.refl _))))
  rw[←cl_p hz,(cl_cls FK N).eq e]
  exact .sl (fun k=>ho (fP_opp.2 k)) (fP_slope hl) (fun k=>phq_ne hz (FK.Z_of (FK.symm e) k))
def Fr (n:Nat)(q:EG FG (4,4)):Prop:=∀A a B e,q=mk FG A a→Ord2.E2_.neg (Ord2.E2_.nx n q)=mk FG B e→EqP FK (ut B) (fP (ut A))
theorem fr_of {n:Nat}{A B:Pt G}{a:OnP FG (4,4) A}{e:OnP FG (4,4) B}(h1:Ord2.E2_.neg (Ord2.E2_.nx n (mk FG A a))=mk FG B e)(h:EqP FK (ut B) (fP (ut A))):Fr n (mk FG A a):=fun A' a' B' e' k1 k2=>by
 have i1:=ut_eq FG hm2 s (eq_mk FG k1)
 have i2:=ut_eq FG hm2 s (eq_mk FG (k2.symm.trans h1))
 exact eqP_trans FK i2 (eqP_trans FK h (fP_eq i1))
theorem fr_O (n:Nat):Fr n Ord2.E2_.O:=by
 refine fr_of (A:=none) (B:=none) (a:=trivial) (e:=trivial) ?_ trivial
 show Ord2.E2_.neg (Ord2.E2_.nx n Ord2.E2_.O)=Ord2.E2_.O
 rw[nx_O]
 exact (Ord2.E2_.neg_of (x:=Ord2.E2_.O) (y:=Ord2.E2_.O) (Ord2.E2_.zero _)).symm
theorem neg_add (x y:EG FG (4,4)):Ord2.E2_.neg (Ord2.E2_.add x y)=Ord2.E2_.add (Ord2.E2_.neg x) (Ord2.E2_.neg y):=
 (Ord2.E2_.neg_of (x:=Ord2.E2_.add x y) (by rw[Ord2.E2_.swap,Ord2.E2_.inv,Ord2.E2_.inv,Ord2.E2_.zero])).symm
theorem fr_add {n:Nat}{p q:EG FG (4,4)}(hp:Fr n p)(hq:Fr n q):Fr n (Ord2.E2_.add p q):=by
 obtain⟨A,a,rfl⟩:=mk_ex FG p
 obtain⟨B,e,rfl⟩:=mk_ex FG q
 obtain⟨C,hC,c⟩:=sum_ex FG a e
 have e1:Ord2.E2_.add (mk FG A a) (mk FG B e)=mk FG C c:=add_mk FG hC
 obtain⟨A',a',hA'⟩:=mk_ex FG (Ord2.E2_.neg (Ord2.E2_.nx n (mk FG A a)))
 obtain⟨B',b',hB'⟩:=mk_ex FG (Ord2.E2_.neg (Ord2.E2_.nx n (mk FG B e)))
 obtain⟨C',hC',c'⟩:=sum_ex FG a' b'
 have e2':Ord2.E2_.add (mk FG A' a') (mk FG B' b')=mk FG C' c':=add_mk FG hC'
 rw[e1]
 refine fr_of (B:=C') (e:=c') ?_ ?_
 ·rw[←e1,nx_sum,neg_add,hA',hB',e2']
 ·have i1:=hp A a A' a' rfl hA'
  have i2:=hq B e B' b' rfl hB'
  have s1:=ut_sum FG hm2 s s_ne hC'
  have s2:=fP_sum (ut_sum FG hm2 s s_ne hC)
  exact sum_un FK s1 (sum_eq FK (eqP_symm FK i1) (eqP_symm FK i2) (eqP_refl FK _) s2)
theorem fr_nx {n:Nat}{q:EG FG (4,4)}(h:Fr n q):∀k,Fr n (Ord2.E2_.nx k q)
 |0=>fr_O n
 |k+1=>fr_add (fr_nx h k) h
section
variable (hN:N=N'*(PP.toNat^6-1)) (hx:x0%PP≠0) (hy:y0%PP≠0)
include hy
theorem hq_fr {n:Nat}{p q:EG FG (4,4)}(hp:Fr n p)(hq':Fr n q):hq N x0 y0 (Ord2.E2_.neg (Ord2.E2_.nx n p)) (Ord2.E2_.neg (Ord2.E2_.nx n q))=(ug FK).nx PP.toNat (hq N x0 y0 p q):=by
 obtain⟨A,a,rfl⟩:=mk_ex FG p
 obtain⟨B,e,rfl⟩:=mk_ex FG q
 obtain⟨A',a',hA'⟩:=mk_ex FG (Ord2.E2_.neg (Ord2.E2_.nx n (mk FG A a)))
 obtain⟨B',b',hB'⟩:=mk_ex FG (Ord2.E2_.neg (Ord2.E2_.nx n (mk FG B e)))
 have i1:=hp A a A' a' rfl hA'
 have i2:=hq' B e B' b' rfl hB'
 rw[hA',hB']
 exact hv_un FK (ug FK) (cl_cls FK N) (hv_eq FK (ug FK) (cl_cls FK N) i1 i2 (hq_of hy a' b')) (fP_hv (hq_of hy a e))
include hN hx
theorem hq_neg (hP:On FK (FK.int 4) (e2 (x0,0)) (e2 (y0,0)))(p q:EG FG (4,4)):(ug FK).add (hq N x0 y0 p q) (hq N x0 y0 (Ord2.E2_.neg p) (Ord2.E2_.neg q))=(ug FK).O:=by
 obtain⟨A,a,rfl⟩:=mk_ex FG p
 obtain⟨B,e,rfl⟩:=mk_ex FG q
 have na:Ord2.E2_.neg (mk FG A a)=mk FG (negP FG A) (onP_neg FG a):=rfl
 have ne:Ord2.E2_.neg (mk FG B e)=mk FG (negP FG B) (onP_neg FG e):=rfl
 rw[na,ne]
 have h1:=hq_of (N:=N) (x0:=x0) hy a e
 have h2:=hq_of (N:=N) (x0:=x0) hy (onP_neg FG a) (onP_neg FG e)
 rcases A with _|⟨x1,y1⟩
 ·rw[hv_un FK (ug FK) (cl_cls FK N) h1 .zl,hv_un FK (ug FK) (cl_cls FK N) h2 .zl,(ug FK).zero]
 rcases B with _|⟨x2,y2⟩
 ·rw[hv_un FK (ug FK) (cl_cls FK N) h1 .zr,hv_un FK (ug FK) (cl_cls FK N) h2 .zr,(ug FK).zero]
 by_cases ho:Opp FG x1 y1 x2 y2
 ·have ho2:Opp FG x1 (FG.sub (FG.int 0) y1) x2 (FG.sub (FG.int 0) y2):=⟨ho.1,ng_o FG ho.2⟩
  rw[hv_un FK (ug FK) (cl_cls FK N) h1 (.op ((ut_opp FG hm2 s s_ne).1 ho)),hv_un FK (ug FK) (cl_cls FK N) h2 (.op ((ut_opp FG hm2 s s_ne).1 ho2)),(ug FK).zero]
 ·obtain⟨l,hl⟩:=slope_ex FG a e ho
  have ho2:¬Opp FG x1 (FG.sub (FG.int 0) y1) x2 (FG.sub (FG.int 0) y2):=fun k=>ho ⟨k.1,ng_i FG k.2⟩
  have hl2:Slope FG (FG.sub (FG.int 0) l) x1 (FG.sub (FG.int 0) y1) x2 (FG.sub (FG.int 0) y2):=⟨ng_3 FG hl.c3,ng_c FG hl.cc⟩
  rw[hv_un FK (ug FK) (cl_cls FK N) h1 (.sl (fun k=>ho ((ut_opp FG hm2 s s_ne).2 k)) (ut_slope FG hm2 s hl) (lin_ne hy l x1 y1)),hv_un FK (ug FK) (cl_cls FK N) h2 (.sl (fun k=>ho2 ((ut_opp FG hm2 s s_ne).2 k)) (ut_slope FG hm2 s hl2) (lin_ne hy _ x1 _))]
  obtain⟨D,hD,d⟩:=sum_ex FG a e
  have hs1:=ut_slope FG hm2 s hl
  have eq1:FK.eq (FK.mul s (e2 (FG.sub (FG.int 0) l))) (FK.sub (FK.int 0) (FK.mul s (e2 l))):=by
   rw[hm2.sub,hm2.int]
   exact ut_n1 FK
  have eq2:FK.eq (FK.mul (e2 (FG.sub (FG.int 0) y1)) (FK.mul (FK.mul s s) s)) (FK.sub (FK.int 0) (FK.mul (e2 y1) (FK.mul (FK.mul s s) s))):=by
   rw[hm2.sub,hm2.int]
   exact ut_n2 FK
  have e3:=lnv_eq FK (e2 (x0,0)) (e2 (y0,0)) eq1 (FK.refl (FK.mul (e2 x1) (FK.mul s s))) eq2
  rw[(cl_cls FK N).eq e3]
  have gD:=gd hN hx (some ((FG.sub (FG.sub (FG.mul l l) x1) x2),y1))
  refine hv_ref FK (ug FK) (cl_cls FK N) (ut_on_ a) hP hs1 ?_ (gd hN hx (some (x1,y1))) (gd hN hx (some (x2,y2))) (yD:=FK.mul (e2 y1) (FK.mul (FK.mul s s) s)) (xD:=FK.mul (e2 (FG.sub (FG.sub (FG.mul l l) x1) x2)) (FK.mul s s)) gD (lin_ne hy l x1 y1) (fun k=>lin_ne hy _ x1 _ (FK.Z_of (FK.symm e3) k))
  have:=us_x FK (s:=s) (x1:=e2 x1) (x2:=e2 x2) (l:=e2 l) (x3:=e2 (FG.sub (FG.sub (FG.mul l l) x1) x2)) (by
   have h9:FK.eq (e2 (FG.sub (FG.sub (FG.mul l l) x1) x2)) (e2 (FG.sub (FG.sub (FG.mul l l) x1) x2)):=FK.refl _
   rw[hm2.sub,hm2.sub,hm2.mul] at h9 ⊢
   exact h9)
  exact this
end
end
end Pk
namespace Pk
set_option maxRecDepth 100000
open Go Ring Ab Ec Fp Fp2 Fp6 Fp12 Frob
theorem no_two {x y:G}(a:OnP FG (4,4) (some (x,y))):¬FG.Z y:=fun hy=>by
 have h2:Ord2.E2_.nx 2 (mk FG (some (x,y)) a)=Ord2.E2_.O:=by
  rw[show (2:Nat)=1+1 from rfl,nx_add,nx_one]
  exact add_mk FG (C:=none) (c:=(trivial:OnP FG (4,4) none)) (.op ⟨FG.refl x,FG.za hy hy⟩)
 have h3:=nx_gcd Ord2.E2_ _ _ h2 (Ord2.every (mk FG (some (x,y)) a))
 rw[show Nat.gcd 2 _=1 by decide +kernel,nx_one] at h3
 exact eq_mk FG h3
theorem neg_neg' (x:EG FG (4,4)):Ord2.E2_.neg (Ord2.E2_.neg x)=x:=(Ord2.E2_.neg_of (x:=Ord2.E2_.neg x) (y:=x) (by rw[Ord2.E2_.comm,Ord2.E2_.inv])).symm
section
variable {N N' r:Nat} (hN:N=N'*(PP.toNat^6-1)) (hr:N*r=PP.toNat^12-1)
theorem hv_r {X Y:K}{A B:Pt K}{u:UT FK}(hr:N*r=PP.toNat^12-1)(h:HV FK (ug FK) (cl FK N) X Y A B u):(ug FK).nx r u=(ug FK).O:=by
 cases h with
 |zl=>exact nx_O _ _
 |zr=>exact nx_O _ _
 |op _=>exact nx_O _ _
 |sl _ _ _=>exact cl_r hr _
theorem hq_r {x0 y0:Int}(hr:N*r=PP.toNat^12-1)(hy:y0%PP≠0)(p q:EG FG (4,4)):(ug FK).nx r (hq N x0 y0 p q)=(ug FK).O:=by
 obtain⟨A,a,rfl⟩:=mk_ex FG p
 obtain⟨B,e,rfl⟩:=mk_ex FG q
 exact hv_r hr (hq_of hy a e)
include hN hr
theorem chain_q {x0 y0:Int}(hx:x0%PP≠0)(hy:y0%PP≠0)(hP:On FK (FK.int 4) (e2 (x0,0)) (e2 (y0,0))){n:Nat}(hn:r ∣ n+PP.toNat){p q:EG FG (4,4)}(hp:Fr n p)(hq':Fr n q) :
  chn Ord2.E2_ (ug FK) (hq N x0 y0) n (Ord2.E2_.add p q)=(ug FK).add (chn Ord2.E2_ (ug FK) (hq N x0 y0) n p) (chn Ord2.E2_ (ug FK) (hq N x0 y0) n q):=by
 have e:=chn_lin Ord2.E2_ (ug FK) (hq_0 (N:=N) (x0:=x0) hy) (hq_c (N:=N) (x0:=x0) hy) (hq_h hN hx hy hP) p q n
 have f1:=hq_fr (N:=N) (x0:=x0) hy hp hq'
 have f2:=hq_neg hN hx hy hP (Ord2.E2_.neg (Ord2.E2_.nx n p)) (Ord2.E2_.neg (Ord2.E2_.nx n q))
 rw[neg_neg',neg_neg',f1] at f2
 have f3:(ug FK).nx (n+PP.toNat) (hq N x0 y0 p q)=(ug FK).O:=nx_dvd _ hn (hq_r hr hy p q)
 have e2':=congrArg (fun z=>(ug FK).add z ((ug FK).nx PP.toNat (hq N x0 y0 p q))) e
 rw[(ug FK).assoc,←nx_add,f3,(ug FK).zero,(ug FK).assoc,(ug FK).comm (hq N x0 y0 _ _),f2,(ug FK).zero] at e2'
 exact e2'
omit hN hr
noncomputable def gq (N:Nat)(m u v:Int)(q:EG FG (4,4)):UT FK:=Quotient.liftOn q (fun A=>gv FK (ug FK) (cl FK N) (e2 (m,0)) (e2 (u,0)) (e2 (v,0)) (ut A.1)) (fun A B h=>gv_eq FK (ug FK) (cl_cls FK N) (ut_eq FG hm2 s h))
theorem gq_mk {m u v:Int}{A:Pt G}{a:OnP FG (4,4) A}:gq N m u v (mk FG A a)=gv FK (ug FK) (cl FK N) (e2 (m,0)) (e2 (u,0)) (e2 (v,0)) (ut A):=rfl
theorem off_ut (m u v:Int){A:Pt G}(a:OnP FG (4,4) A):Off FK (e2 (m,0)) (e2 (u,0)) (e2 (v,0)) (ut A):=by
 rcases A with _|⟨x,y⟩
 ·trivial
 ·exact⟨off_1 m u v (no_two a),off_2 m u v (no_two a)⟩
theorem gq_r {m u v:Int}(hr:N*r=PP.toNat^12-1)(q:EG FG (4,4)):(ug FK).nx r (gq N m u v q)=(ug FK).O:=by
 obtain⟨A,a,rfl⟩:=mk_ex FG q
 rw[gq_mk]
 rcases A with _|⟨x,y⟩
 ·exact nx_O _ _
 ·exact cl_r hr _
theorem gq_fr {m u v:Int}{n:Nat}{q:EG FG (4,4)}(h:Fr n q):gq N m u v (Ord2.E2_.neg (Ord2.E2_.nx n q))=(ug FK).nx PP.toNat (gq N m u v q):=by
 obtain⟨A,a,rfl⟩:=mk_ex FG q
 obtain⟨B,e,hB⟩:=mk_ex FG (Ord2.E2_.neg (Ord2.E2_.nx n (mk FG A a)))
 have i:=h A a B e rfl hB
 rw[hB,gq_mk,gq_mk,gv_eq FK (ug FK) (cl_cls FK N) i]
 rcases A with _|⟨x,y⟩
 ·exact (nx_O _ _).symm
 ·have hz:=off_1 m u v (x:=x) (no_two a)
  show cl FK N (lnv FK (e2 (m,0)) (e2 (u,0)) (e2 (v,0)) (ph _) (ph _))=(ug FK).nx PP.toNat (cl FK N (lnv FK _ _ _ _ _))
  rw[←cl_p hz]
  refine (cl_cls FK N).eq (FK.symm (FK.trans (fP_lnv _ _ _ _ _) ?_))
  exact FK.sub_eq (FK.sub_eq (FK.refl _) (ph_fix _)) (FK.mul_eq (ph_fix _) (FK.sub_eq (FK.refl _) (ph_fix _)))
section
variable {m u1 v1 u2 v2 u3 v3:Int} (p1:On FI 4 u1 v1) (hm:Slope FI m u1 v1 u2 v2) (h3:FI.eq u3 (Xs FI m u1 u2)) (k3:FI.eq v3 (Ys FI m u1 v1 u3)) (n1:u1%PP≠0) (n2:u2%PP≠0) (n3:u3%PP≠0)
theorem on_K {x y:Int}(h:On FI 4 x y):On FK (FK.int 4) (e2 (x,0)) (e2 (y,0)):=by
 have:=(hm1.z _).1 h
 rwa [hm1.sub,hm1.add,hm1.mul,hm1.mul,hm1.mul] at this
theorem slope_K {m u1 v1 u2 v2:Int}(h:Slope FI m u1 v1 u2 v2):Slope FK (e2 (m,0)) (e2 (u1,0)) (e2 (v1,0)) (e2 (u2,0)) (e2 (v2,0)):=by
 have a:=(hm1.z _).1 h.c3
 have c:=(hm1.z _).1 h.cc
 simp only[hm1.sub,hm1.mul,hm1.add] at a c
 exact⟨a,c⟩
theorem m1_cl (hN:N=N'*(PP.toNat^6-1)):cl FK N (FK.int (-1))=(ug FK).O:=cl_fix hN (nz_int FK (by decide +kernel)) (by
 show E12 (Fp12.kc (e2 (-1,0))) (e2 (-1,0))
 exact E12.rfl)
include p1 hm h3 k3 n1 n2 n3 hN
theorem gq_neg (q:EG FG (4,4)):(ug FK).add (gq N m u1 v1 q) (gq N m u1 v1 (Ord2.E2_.neg q))=(ug FK).O:=by
 obtain⟨A,a,rfl⟩:=mk_ex FG q
 have na:Ord2.E2_.neg (mk FG A a)=mk FG (negP FG A) (onP_neg FG a):=rfl
 rw[na,gq_mk,gq_mk]
 have h3':=(hm1.eq).1 h3
 simp only[Xs,hm1.sub,hm1.mul] at h3'
 rcases A with _|⟨x,y⟩
 ·exact (ug FK).zero _
 ·have e1:FK.eq (FK.mul (e2 (FG.sub (FG.int 0) y)) (FK.mul (FK.mul s s) s)) (FK.sub (FK.int 0) (FK.mul (e2 y) (FK.mul (FK.mul s s) s))):=by
   rw[hm2.sub,hm2.int]
   exact ut_n2 FK
  have e2':gv FK (ug FK) (cl FK N) (e2 (m,0)) (e2 (u1,0)) (e2 (v1,0)) (ut (negP FG (some (x,y))))=cl FK N (lnv FK (e2 (m,0)) (e2 (u1,0)) (e2 (v1,0)) (FK.mul (e2 x) (FK.mul s s)) (FK.sub (FK.int 0) (FK.mul (e2 y) (FK.mul (FK.mul s s) s)))):=
   (cl_cls FK N).eq (FK.sub_eq (FK.sub_eq e1 (FK.refl _)) (FK.refl _))
  rw[e2']
  exact gv_neg FK (ug FK) (cl_cls FK N) (on_K p1) (slope_K hm) h3' (ut_on_ a) (gd hN n1 (some (x,y))) (gd hN n2 (some (x,y))) (gd hN n3 (some (x,y))) (off_ut m u1 v1 a)
variable (z1:v1%PP≠0) (z2:v2%PP≠0) (z3:FI.sub (FI.int 0) v3%PP≠0)
include z1 z2 z3
theorem hq_rec (p q:EG FG (4,4)):(ug FK).add ((ug FK).add ((ug FK).add (hq N u1 v1 p q) (hq N u2 v2 p q)) (hq N u3 (FI.sub (FI.int 0) v3) p q)) (gq N m u1 v1 (Ord2.E2_.add p q))=(ug FK).add (gq N m u1 v1 p) (gq N m u1 v1 q):=by
 obtain⟨A,a,rfl⟩:=mk_ex FG p
 obtain⟨B,e,rfl⟩:=mk_ex FG q
 obtain⟨D,hD,d⟩:=sum_ex FG a e
 have e1:Ord2.E2_.add (mk FG A a) (mk FG B e)=mk FG D d:=add_mk FG hD
 have h3':=(hm1.eq).1 h3
 have k3':=(hm1.eq).1 k3
 simp only[Xs,Ys,hm1.sub,hm1.mul] at h3' k3'
 rw[e1,gq_mk,gq_mk,gq_mk]
 have q3:=hq_of (N:=N) (x0:=u3) z3 a e
 have ey:e2 (FI.sub (FI.int 0) v3,0)=FK.sub (FK.int 0) (e2 (v3,0)):=Ec.Hm.sub FI hm1 (FI.int 0) v3
 rw[ey] at q3
 exact hv_rec FK (ug FK) (cl_cls FK N) (on_K p1) (slope_K hm) h3' k3' (m1_cl hN) b4_ne (ut_on_ a) (ut_on_ e) (ut_sum FG hm2 s s_ne hD) (off_ut m u1 v1 a) (off_ut m u1 v1 e) (off_ut m u1 v1 d)
  (gd hN n1 A) (gd hN n2 A) (gd hN n3 A) (gd hN n1 D) (gd hN n2 D) (gd hN n3 D) (hq_of z1 a e) (hq_of z2 a e) q3
include hr
theorem chain_p {n:Nat}(hn:r ∣ n+PP.toNat){q:EG FG (4,4)}(hq':Fr n q) :
  (ug FK).add ((ug FK).add (chn Ord2.E2_ (ug FK) (hq N u1 v1) n q) (chn Ord2.E2_ (ug FK) (hq N u2 v2) n q)) (chn Ord2.E2_ (ug FK) (hq N u3 (FI.sub (FI.int 0) v3)) n q)=(ug FK).O:=by
 have e:=chn_bd Ord2.E2_ (ug FK) (g:=gq N m u1 v1) (by exact rfl) (hq_rec hN p1 hm h3 k3 n1 n2 n3 z1 z2 z3) q n
 rw[chn_add2,chn_add2] at e
 have f:=gq_neg hN p1 hm h3 k3 n1 n2 n3 (Ord2.E2_.neg (Ord2.E2_.nx n q))
 rw[neg_neg',gq_fr hq'] at f
 have e2':=congrArg (fun z=>(ug FK).add z ((ug FK).nx PP.toNat (gq N m u1 v1 q))) e
 rw[(ug FK).assoc,(ug FK).comm (gq N m u1 v1 (Ord2.E2_.nx n q)),f,(ug FK).zero,←nx_add,nx_dvd _ hn (gq_r hr q)] at e2'
 exact e2'
end
end
end Pk
namespace Ec
set_option maxRecDepth 100000
open Go Ring
section
variable {α:Type} (F:Fd α)
theorem ph_s_ {t s w c g:α}(h1:F.Z (F.sub (F.mul (F.mul c w) t) (F.int 1)))(h2:F.Z (F.sub (F.mul w s) (F.int 1)))(h3:F.Z (F.sub (F.mul g c) (F.int 1))):F.Z (F.sub t (F.mul g s)):=by
 have e:(F.sub t (F.mul g s))=(F.add (F.add (F.mul (F.mul g s) (F.sub (F.mul (F.mul c w) t) (F.int 1))) (F.mul (F.mul (F.mul (F.mul (F.int (-1)) c) g) t) (F.sub (F.mul w s) (F.int 1)))) (F.mul (F.mul (F.int (-1)) t) (F.sub (F.mul g c) (F.int 1)))):=F.eq_of (fun k_=>match k_ with|0=>t|1=>s|2=>w|3=>c|_=>g) (e:=(.s (.v 0) (.m (.v 4) (.v 1)))) (f:=(.a (.a (.m (.m (.v 4) (.v 1)) (.s (.m (.m (.v 3) (.v 2)) (.v 0)) (.n 1))) (.m (.m (.m (.m (.n (-1)) (.v 3)) (.v 4)) (.v 0)) (.s (.m (.v 2) (.v 1)) (.n 1)))) (.m (.m (.n (-1)) (.v 0)) (.s (.m (.v 4) (.v 3)) (.n 1))))) rfl rfl (by decide +kernel)
 rw[e]
 exact (F.za (F.za (F.zm' _ h1) (F.zm' _ h2)) (F.zm' _ h3))
theorem rep_is {X Y Z x y:α}{C:Pt α}(h:Rep F X Y Z C)(hz:¬F.Z Z)(hx:F.eq X (F.mul x (F.mul Z Z)))(hy:F.eq Y (F.mul y (F.mul (F.mul Z Z) Z))):EqP F C (some (x,y)):=by
 rcases C with _|⟨u,v⟩
 ·exact absurd h hz
 ·have h2:¬F.Z (F.mul Z Z):=fun k=>(F.zd k).elim hz hz
  exact⟨F.cancel h2 (F.trans (F.symm h.2.1) hx),F.cancel (fun k=>(F.zd k).elim h2 hz) (F.trans (F.symm h.2.2) hy)⟩
end
end Ec
namespace Pk
set_option maxRecDepth 100000
open Go Ring Ab Ec Fp Fp2 Fp6 Fp12 Frob
def gpf:Nat→G→Nat→G
 |0,_,_=>(1,0)
 |f+1,b,n=>if n=0 then (1,0) else if n%2=1 then Ord2.red (gm (Ord2.red (gm (gpf f b (n/2)) (gpf f b (n/2)))) b) else Ord2.red (gm (gpf f b (n/2)) (gpf f b (n/2)))
theorem red_eq (a:G):E2 (Ord2.red a) a:=⟨Int.emod_emod _ _,Int.emod_emod _ _⟩
theorem gpf_ok (b:G):∀f n,n<2^f→E2 (gpf f b n) (gp b n)
 |0,n,h=>by
  obtain rfl:n=0:=by omega
  exact E2.rfl
 |f+1,n,h=>by
  unfold gpf
  by_cases h0:n=0
  ·rw[if_pos h0]
   subst h0
   exact E2.rfl
  ·rw[if_neg h0]
   have ih:=gpf_ok b f (n/2) (by rw[Nat.pow_succ] at h;omega)
   have e:=Nat.div_add_mod n 2
   have h2:E2 (Ord2.red (gm (gpf f b (n/2)) (gpf f b (n/2)))) (gp b (n/2+n/2)):=by
    rw[gp_add]
    exact (red_eq _).trans (gm_congr ih ih)
   by_cases hd:n%2=1
   ·rw[if_pos hd]
    have e1:gp b n=gm (gp b (n/2+n/2)) b:=by
     conv=>lhs;rw[show n=n/2+n/2+1 by omega]
     rfl
    rw[e1]
    exact (red_eq _).trans (gm_congr h2 E2.rfl)
   ·rw[if_neg hd]
    have e1:gp b n=gp b (n/2+n/2):=by
     conv=>lhs;rw[show n=n/2+n/2 by omega]
    rw[e1]
    exact h2
def g_:G:=(877076961050607968509681729531255177986764537961432449499635504522207616027455086505066378536590128544573588734230,877076961050607968509681729531255177986764537961432449499635504522207616027455086505066378536590128544573588734230)
theorem gam_inv:E2 (gm g_ gam) (1,0):=by
 have h:=gpf_ok (1,1) 380 tt (by decide +kernel)
 refine (gm_congr (E2.rfl (p:=g_)) h.symm).trans ?_
 exact⟨by decide +kernel,by decide +kernel⟩
theorem ph_s:FK.eq (ph s) (FK.mul (e2 g_) s):=by
 have h1:FK.eq (FK.mul (ph ww) (ph s)) (FK.int 1):=FK.trans (FK.symm (phq_mul _ _)) (FK.trans (phq_eq hs) (phq_int 1))
 rw[show ph ww=FK.mul (e2 gam) ww from ph_ww] at h1
 have h3:FK.eq (FK.mul (e2 g_) (e2 gam)) (FK.int 1):=by
  refine fk_eq.2 ?_
  show E12 (Fp12.km (e2 g_) (e2 gam)) (e2 (1,0))
  rw[e2_mul]
  exact e2_congr gam_inv
 exact ph_s_ FK h1 hs h3
def bx:G:=(352701069587466618187139116011060144890029952792775240219908644239793785735715026873347600343865175952761926303160,3059144344244213709971259814753781636986470325476647558659373206291635324768958432433509563104347017837885763365758)
def by_:G:=(1985150602287291935568054521177171638300868978215655730859378665066344726373823718423869104263333984641494340347905,927553665492332455747201965776037880757740193453592970025027978793976877002675564980949289727957565575433344219582)
def tx:G:=(3173817679043455518561028855769621774971450671729042202579931057243242334374140167576873990769662989875082501930087,1061903119136554661252589027312479841350528275070755452158378537709581847493347774609704687139029127751805506262137)
def ty:G:=(1569016022275531455448242868100670019659560879913055225922880837785524435448320094021674095562119072804339610771685,807855666204206740915096284520812046735558067671985150037401639732010952798180646704693959921119854148905070563196)
theorem on_b:OnP FG (4,4) (some (bx,by_)):=by
 show FG.Z _
 decide +kernel
theorem on_t:OnP FG (4,4) (some (tx,ty)):=by
 show FG.Z _
 decide +kernel
def xx:Nat:=15132376222941642752
abbrev jb:=jn FG Ord2.red bx by_ 64 xx
theorem jb_z:¬FG.Z jb.2.2:=by decide +kernel
theorem jb_x:FG.eq jb.1 (FG.mul tx (FG.mul jb.2.2 jb.2.2)):=by
 show FG.Z _
 decide +kernel
theorem jb_y:FG.eq jb.2.1 (FG.mul (FG.sub (FG.int 0) ty) (FG.mul (FG.mul jb.2.2 jb.2.2) jb.2.2)):=by
 show FG.Z _
 decide +kernel
theorem b_times:Ord2.E2_.nx xx (mk FG _ on_b)=mk FG (some (tx,FG.sub (FG.int 0) ty)) (onP_neg FG on_t):=by
 obtain⟨C,hC,hR⟩:=jn_ok FG Ord2.hb Ord2.hred on_b 64 xx (by decide +kernel) (by decide +kernel)
 rw[nx_mk FG Ord2.hb (c:=mult_on FG on_b hC) hC]
 exact mk_eq FG (rep_is FG hR jb_z jb_x jb_y)
theorem b_fr:Fr xx (mk FG _ on_b):=by
 refine fr_of (B:=some (tx,ty)) (e:=on_t) ?_ ⟨?_,?_⟩
 ·rw[b_times]
  exact mk_eq FG (Ec.neg_neg FG (some (tx,ty)))
 ·have e1:FK.eq (ph (FK.mul (e2 bx) (FK.mul s s))) (FK.mul (e2 (gc bx)) (FK.mul (FK.mul (e2 g_) s) (FK.mul (e2 g_) s))):=
   FK.trans (phq_mul _ _) (FK.mul_eq (fk_eq.2 (ph_e2 bx)) (FK.trans (phq_mul _ _) (FK.mul_eq ph_s ph_s)))
  have e3:FK.mul (e2 (gc bx)) (FK.mul (FK.mul (e2 g_) s) (FK.mul (e2 g_) s))=FK.mul (e2 (gm (gc bx) (gm g_ g_))) (FK.mul s s):=by
   rw[show e2 (gm (gc bx) (gm g_ g_))=FK.mul (e2 (gc bx)) (FK.mul (e2 g_) (e2 g_)) from (hm2.mul (gc bx) (gm g_ g_)).trans (congrArg _ (hm2.mul g_ g_))]
   exact FK.eq_of (fun i=>match i with|0=>e2 (gc bx)|1=>e2 g_|_=>s) (e:=.m (.v 0) (.m (.m (.v 1) (.v 2)) (.m (.v 1) (.v 2)))) (f:=.m (.m (.v 0) (.m (.v 1) (.v 1))) (.m (.v 2) (.v 2))) rfl rfl (by decide)
  rw[e3] at e1
  exact FK.trans (FK.mul_eq (hm2.eq.1 (show FG.Z _ by decide +kernel:FG.eq tx (gm (gc bx) (gm g_ g_)))) (FK.refl _)) (FK.symm e1)
 ·have e1:FK.eq (ph (FK.mul (e2 by_) (FK.mul (FK.mul s s) s))) (FK.mul (e2 (gc by_)) (FK.mul (FK.mul (FK.mul (e2 g_) s) (FK.mul (e2 g_) s)) (FK.mul (e2 g_) s))):=
   FK.trans (phq_mul _ _) (FK.mul_eq (fk_eq.2 (ph_e2 by_)) (FK.trans (phq_mul _ _) (FK.mul_eq (FK.trans (phq_mul _ _) (FK.mul_eq ph_s ph_s)) ph_s)))
  have e3:FK.mul (e2 (gc by_)) (FK.mul (FK.mul (FK.mul (e2 g_) s) (FK.mul (e2 g_) s)) (FK.mul (e2 g_) s))=FK.mul (e2 (gm (gc by_) (gm (gm g_ g_) g_))) (FK.mul (FK.mul s s) s):=by
   rw[show e2 (gm (gc by_) (gm (gm g_ g_) g_))=FK.mul (e2 (gc by_)) (FK.mul (FK.mul (e2 g_) (e2 g_)) (e2 g_)) from (hm2.mul (gc by_) (gm (gm g_ g_) g_)).trans (congrArg _ ((hm2.mul (gm g_ g_) g_).trans (congrArg (fun z=>FK.mul z (e2 g_)) (hm2.mul g_ g_))))]
   exact FK.eq_of (fun i=>match i with|0=>e2 (gc by_)|1=>e2 g_|_=>s) (e:=.m (.v 0) (.m (.m (.m (.v 1) (.v 2)) (.m (.v 1) (.v 2))) (.m (.v 1) (.v 2)))) (f:=.m (.m (.v 0) (.m (.m (.v 1) (.v 1)) (.v 1))) (.m (.m (.v 2) (.v 2)) (.v 2))) rfl rfl (by decide)
  rw[e3] at e1
  exact FK.trans (FK.mul_eq (hm2.eq.1 (show FG.Z _ by decide +kernel:FG.eq ty (gm (gc by_) (gm (gm g_ g_) g_)))) (FK.refl _)) (FK.symm e1)
def NN:Nat:=78397215767639351751303539406591998030659973752277835093500984717482495863696432114782398705998462124488507071932754873713657648042876855226719941066154790233267173392251877844078779464793560650402294739346362510843744832295392670560411320125016323453660471382591030303077963871263843770286828591216718803577214443976092043513574786654005654814568699214955083437159857827181018676906603709034981446867725269294713807167422161370850693874170969451369721974746920301854357878239734088793531268218768263305144542073208999546584084664244010458648651997590248277790283036492015537637630999474454989559733616987102570*(PP.toNat^6-1)
theorem NN_r:NN*52435875175126190479447740508185965837690552500527637822603658699938581184513=PP.toNat^12-1:=by decide +kernel
theorem r_dvd:52435875175126190479447740508185965837690552500527637822603658699938581184513 ∣ xx+PP.toNat:=Nat.dvd_of_mod_eq_zero (by decide +kernel)
end Pk
namespace Ec
set_option maxRecDepth 100000
open Go Ring Ab
section
variable {α:Type} (F:Fd α)
theorem nm_m {X Y l c x1 x2 x3:α}(h:F.Z (F.add (F.mul (F.sub Y (F.add (F.mul l X) c)) (F.sub (F.sub (F.int 0) Y) (F.add (F.mul l X) c))) (F.mul (F.mul (F.sub X x1) (F.sub X x2)) (F.sub X x3)))):F.Z (F.sub (F.mul (F.sub Y (F.add (F.mul l X) c)) (F.sub (F.sub (F.int 0) Y) (F.add (F.mul l X) c))) (F.mul (F.int (-1)) (F.mul (F.mul (F.sub X x1) (F.sub X x2)) (F.sub X x3)))):=by
 have e:(F.sub (F.mul (F.sub Y (F.add (F.mul l X) c)) (F.sub (F.sub (F.int 0) Y) (F.add (F.mul l X) c))) (F.mul (F.int (-1)) (F.mul (F.mul (F.sub X x1) (F.sub X x2)) (F.sub X x3))))=(F.mul (F.int 1) (F.add (F.mul (F.sub Y (F.add (F.mul l X) c)) (F.sub (F.sub (F.int 0) Y) (F.add (F.mul l X) c))) (F.mul (F.mul (F.sub X x1) (F.sub X x2)) (F.sub X x3)))):=F.eq_of (fun k_=>match k_ with|0=>X|1=>Y|2=>l|3=>c|4=>x1|5=>x2|_=>x3) (e:=(.s (.m (.s (.v 1) (.a (.m (.v 2) (.v 0)) (.v 3))) (.s (.s (.n 0) (.v 1)) (.a (.m (.v 2) (.v 0)) (.v 3)))) (.m (.n (-1)) (.m (.m (.s (.v 0) (.v 4)) (.s (.v 0) (.v 5))) (.s (.v 0) (.v 6)))))) (f:=(.m (.n 1) (.a (.m (.s (.v 1) (.a (.m (.v 2) (.v 0)) (.v 3))) (.s (.s (.n 0) (.v 1)) (.a (.m (.v 2) (.v 0)) (.v 3)))) (.m (.m (.s (.v 0) (.v 4)) (.s (.v 0) (.v 5))) (.s (.v 0) (.v 6)))))) rfl rfl (by decide +kernel)
 rw[e]
 exact (F.zm' _ h)
variable {γ:Type} (A:Ab γ) {cls:α→γ} (hC:Cls F A cls)
include hC
theorem hv_pt {X Y X' Y':α}{U V:Pt α}{u:γ}(hX:F.eq X X')(hY:F.eq Y Y')(h:HV F A cls X Y U V u):HV F A cls X' Y' U V u:=by
 cases h with
 |zl=>exact .zl
 |zr=>exact .zr
 |op h=>exact .op h
 |@sl x1 y1 x2 y2 l h hs hz=>
  have e:F.eq (lnv F l x1 y1 X Y) (lnv F l x1 y1 X' Y'):=F.sub_eq (F.sub_eq hY (F.refl _)) (F.mul_eq (F.refl _) (F.sub_eq hX (F.refl _)))
  rw[hC.eq e]
  exact .sl h hs (fun k=>hz (F.Z_of (F.symm e) k))
end
end Ec
namespace Pk
set_option maxRecDepth 100000
open Go Ring Ab Ec Fp Fp2 Fp6 Fp12 Frob
abbrev E2g:=Ord2.E2_
abbrev E1g:=Ord1.E1
theorem eq_K {a b:Int}(h:FI.eq a b):FK.eq (e2 (a,0)) (e2 (b,0)):=(hm1.eq).1 h
theorem hq_cg {N:Nat}{x0 y0 x1 y1:Int}(hx:FI.eq x0 x1)(hy:FI.eq y0 y1)(h0:y0%PP≠0)(h1:y1%PP≠0)(p q:EG FG (4,4)):hq N x0 y0 p q=hq N x1 y1 p q:=by
 obtain⟨A,a,rfl⟩:=mk_ex FG p
 obtain⟨B,e,rfl⟩:=mk_ex FG q
 exact hv_un FK (ug FK) (cl_cls FK N) (hv_pt FK (ug FK) (cl_cls FK N) (eq_K hx) (eq_K hy) (hq_of h0 a e)) (hq_of h1 a e)
theorem chn_cg {h h':EG FG (4,4)→EG FG (4,4)→UT FK}(e:∀p q,h p q=h' p q)(x:EG FG (4,4)):∀n,chn E2g (ug FK) h n x=chn E2g (ug FK) h' n x
 |0=>rfl
 |n+1=>by rw[chn,chn_cg e x n,e,chn]
theorem chn_O {h:EG FG (4,4)→EG FG (4,4)→UT FK}(h0:∀q,h E2g.O q=(ug FK).O):∀n,chn E2g (ug FK) h n E2g.O=(ug FK).O
 |0=>rfl
 |n+1=>by rw[chn,chn_O h0 n,nx_O,h0,(ug FK).zero]
theorem ne_neg {y:Int}(h:y%PP≠0):FI.sub (FI.int 0) y%PP≠0:=fun k=>by
 have e:FI.sub (FI.int 0) y=-y:=by show 0 + -1*y=-y;omega
 rw[e] at k
 exact h (Int.emod_eq_zero_of_dvd (Int.dvd_neg.1 (Int.dvd_of_emod_eq_zero k)))
theorem hq_op {x0 y0:Int}(hx:x0%PP≠0)(hy:y0%PP≠0)(hP:On FK (FK.int 4) (e2 (x0,0)) (e2 (y0,0)))(p q:EG FG (4,4)):(ug FK).add (hq NN x0 y0 p q) (hq NN x0 (FI.sub (FI.int 0) y0) p q)=(ug FK).O:=by
 obtain⟨A,a,rfl⟩:=mk_ex FG p
 obtain⟨B,e,rfl⟩:=mk_ex FG q
 have hy2:=ne_neg hy
 have h1:=hq_of (N:=NN) (x0:=x0) hy a e
 have h2:=hq_of (N:=NN) (x0:=x0) hy2 a e
 rcases A with _|⟨x1,y1⟩
 ·rw[hv_un FK (ug FK) (cl_cls FK NN) h1 .zl,hv_un FK (ug FK) (cl_cls FK NN) h2 .zl,(ug FK).zero]
 rcases B with _|⟨x2,y2⟩
 ·rw[hv_un FK (ug FK) (cl_cls FK NN) h1 .zr,hv_un FK (ug FK) (cl_cls FK NN) h2 .zr,(ug FK).zero]
 by_cases ho:Opp FG x1 y1 x2 y2
 ·rw[hv_un FK (ug FK) (cl_cls FK NN) h1 (.op ((ut_opp FG hm2 s s_ne).1 ho)),hv_un FK (ug FK) (cl_cls FK NN) h2 (.op ((ut_opp FG hm2 s s_ne).1 ho)),(ug FK).zero]
 ·obtain⟨l,hl⟩:=slope_ex FG a e ho
  have z1:=lin_ne (x0:=x0) hy l x1 y1
  have z2:=lin_ne (x0:=x0) hy2 l x1 y1
  rw[hv_un FK (ug FK) (cl_cls FK NN) h1 (.sl (fun k=>ho ((ut_opp FG hm2 s s_ne).2 k)) (ut_slope FG hm2 s hl) z1),hv_un FK (ug FK) (cl_cls FK NN) h2 (.sl (fun k=>ho ((ut_opp FG hm2 s s_ne).2 k)) (ut_slope FG hm2 s hl) z2),←(cl_cls FK NN).mul z1 z2]
  have hs1:=ut_slope FG hm2 s hl
  have gA:=gd (N:=NN) rfl hx (some (x1,y1))
  have gB:=gd (N:=NN) rfl hx (some (x2,y2))
  have gD:=gd (N:=NN) rfl hx (some ((FG.sub (FG.sub (FG.mul l l) x1) x2),y1))
  have hD:FK.eq (FK.mul (e2 (FG.sub (FG.sub (FG.mul l l) x1) x2)) (FK.mul s s)) (Xs FK (FK.mul s (e2 l)) (FK.mul (e2 x1) (FK.mul s s)) (FK.mul (e2 x2) (FK.mul s s))):=us_x FK (s:=s) (x1:=e2 x1) (x2:=e2 x2) (l:=e2 l) (x3:=e2 (FG.sub (FG.sub (FG.mul l l) x1) x2)) (by
   have h9:FK.eq (e2 (FG.sub (FG.sub (FG.mul l l) x1) x2)) (e2 (FG.sub (FG.sub (FG.mul l l) x1) x2)):=FK.refl _
   rw[hm2.sub,hm2.sub,hm2.mul] at h9 ⊢
   exact h9)
  have hc:FK.Z (FK.sub (FK.sub (FK.mul (e2 y1) (FK.mul (FK.mul s s) s)) (FK.mul (FK.mul s (e2 l)) (FK.mul (e2 x1) (FK.mul s s)))) (FK.sub (FK.mul (e2 y1) (FK.mul (FK.mul s s) s)) (FK.mul (FK.mul s (e2 l)) (FK.mul (e2 x1) (FK.mul s s))))):=FK.refl _
  have w2:=vt_2 FK hs1.cc hs1.c3 hD hc
  have w3:=vt_3 FK w2 hD hc (ut_on_ a)
  have nm:=nm_m FK (ln_norm FK hP (e1_ FK hD) w2 w3)
  have ey:e2 (FI.sub (FI.int 0) y0,0)=FK.sub (FK.int 0) (e2 (y0,0)):=Ec.Hm.sub FI hm1 (FI.int 0) y0
  have a1:=ln_c FK (X:=e2 (x0,0)) (Y:=e2 (y0,0)) hc
  have a2:=ln_c FK (X:=e2 (x0,0)) (Y:=FK.sub (FK.int 0) (e2 (y0,0))) hc
  rw[ey]
  rw[ey] at z2
  have key:=FK.trans (FK.mul_eq a1 a2) nm
  have g12:¬FK.Z (FK.mul (FK.sub (e2 (x0,0)) (FK.mul (e2 x1) (FK.mul s s))) (FK.sub (e2 (x0,0)) (FK.mul (e2 x2) (FK.mul s s)))):=fun k=>(FK.zd k).elim gA.1 gB.1
  have:=(cl_cls FK NN).eq key
  rw[(cl_cls FK NN).mul (nz_int FK (by decide +kernel)) (fun k=>(FK.zd k).elim g12 gD.1),m1_cl (N:=NN) rfl,(ug FK).zero',three FK (ug FK) (cl_cls FK NN) gA gB gD] at this
  exact this
theorem parts_ne {x y:Int}{a:OnP FI 4 (some (x,y))}(h:E1g.nx 52435875175126190479447740508185965837690552500527637822603658699938581184513 (mk FI (some (x,y)) a)=E1g.O):x%PP≠0∧y%PP≠0:=by
 constructor
 ·intro hx
  have e1:Ord1.ph (mk FI (some (x,y)) a)=mk FI (some (x,y)) a:=mk_eq FI ⟨by
   refine Ord1.fi_eq.2 ?_
   show Ord1.T*x%PP=x%PP
   rw[Int.mul_emod,hx,Int.mul_zero,Int.zero_emod],FI.refl _⟩
  have h3:=phG_three FI Ord1.hb Ord1.hT (mk FI (some (x,y)) a)
  have e1':phG FI Ord1.hT (mk FI (some (x,y)) a)=mk FI (some (x,y)) a:=e1
  rw[e1',e1'] at h3
  have h4:E1g.nx 3 (mk FI (some (x,y)) a)=E1g.O:=by
   rw[show (3:Nat)=1+1+1 from rfl,nx_add,nx_add,nx_one]
   exact h3
  have h5:=nx_gcd E1g _ _ h4 h
  rw[show Nat.gcd 3 52435875175126190479447740508185965837690552500527637822603658699938581184513=1 by decide +kernel,nx_one] at h5
  exact eq_mk FI h5
 ·intro hy
  have h2:E1g.nx 2 (mk FI (some (x,y)) a)=E1g.O:=by
   rw[show (2:Nat)=1+1 from rfl,nx_add,nx_one]
   exact add_mk FI (C:=none) (c:=(trivial:OnP FI 4 none)) (.op ⟨FI.refl x,FI.za hy hy⟩)
  have h5:=nx_gcd E1g _ _ h2 h
  rw[show Nat.gcd 2 52435875175126190479447740508185965837690552500527637822603658699938581184513=1 by decide +kernel,nx_one] at h5
  exact eq_mk FI h5
theorem kill_add {n:Nat}{A B C:Pt Int}{a:OnP FI 4 A}{e:OnP FI 4 B}{c:OnP FI 4 C}(hA:E1g.nx n (mk FI A a)=E1g.O)(hB:E1g.nx n (mk FI B e)=E1g.O)(hS:Ec.Sum FI A B C):E1g.nx n (mk FI C c)=E1g.O:=by
 rw[←add_mk FI (a:=a) (e:=e) hS]
 show E1g.nx n (E1g.add (mk FI A a) (mk FI B e))=E1g.O
 rw[nx_sum,hA,hB,E1g.zero]
theorem kill_nx {n k:Nat}{A D:Pt Int}{a:OnP FI 4 A}{d:OnP FI 4 D}(hA:E1g.nx n (mk FI A a)=E1g.O)(h1:Mult FI k A D):E1g.nx n (mk FI D d)=E1g.O:=by
 rw[←nx_mk FI Ord1.hb (a:=a) h1]
 show E1g.nx n (E1g.nx k (mk FI A a))=E1g.O
 rw[nx_comm,hA,nx_O]
noncomputable def ev (q:EG FG (4,4)):Pt Int→UT FK
 |none=>(ug FK).O
 |some (x,y)=>chn E2g (ug FK) (hq NN x y) xx q
theorem ev_eq {q:EG FG (4,4)}{A B:Pt Int}(e:EqP FI A B):ev q A=ev q B:=by
 rcases A with _|⟨x,y⟩<;>rcases B with _|⟨u,v⟩
 ·rfl
 ·exact e.elim
 ·exact e.elim
 ·by_cases hy:y%PP=0
  ·have hv:v%PP=0:=by rw[←Ord1.fi_eq.1 e.2];exact hy
   refine chn_cg (fun p q=>?_) q xx
   rw[hq,hq,dif_neg (fun k=>k hy),dif_neg (fun k=>k hv)]
  ·have hv:v%PP≠0:=by rw[←Ord1.fi_eq.1 e.2];exact hy
   exact chn_cg (fun p q=>hq_cg e.1 e.2 hy hv p q) q xx
theorem ev_op {q:EG FG (4,4)}{x y:Int}(a:OnP FI 4 (some (x,y)))(hx:x%PP≠0)(hy:y%PP≠0):(ug FK).add (ev q (some (x,y))) (ev q (some (x,FI.sub (FI.int 0) y)))=(ug FK).O:=by
 show (ug FK).add (chn E2g (ug FK) (hq NN x y) xx q) (chn E2g (ug FK) (hq NN x (FI.sub (FI.int 0) y)) xx q)=_
 rw[←chn_add2]
 have:∀n,chn E2g (ug FK) (fun p q=>(ug FK).add (hq NN x y p q) (hq NN x (FI.sub (FI.int 0) y) p q)) n q=(ug FK).O:=fun n=>by
  induction n with
  |zero=>rfl
  |succ n ih=>rw[chn,ih,hq_op hx hy (on_K a),(ug FK).zero]
 exact this xx
theorem ev_add {q:EG FG (4,4)}(hq':Fr xx q){A B C:Pt Int}(a:OnP FI 4 A)(e:OnP FI 4 B)(hA:E1g.nx 52435875175126190479447740508185965837690552500527637822603658699938581184513 (mk FI A a)=E1g.O)(hB:E1g.nx 52435875175126190479447740508185965837690552500527637822603658699938581184513 (mk FI B e)=E1g.O)(hS:Ec.Sum FI A B C):ev q C=(ug FK).add (ev q A) (ev q B):=by
 have c:=sum_on FI a e hS
 have hC:E1g.nx 52435875175126190479447740508185965837690552500527637822603658699938581184513 (mk FI C c)=E1g.O:=kill_add hA hB hS
 rcases A with _|⟨x1,y1⟩
 ·rw[ev_eq (eqP_symm FI (sum_nl FI hS))]
  exact ((ug FK).zero' _).symm
 rcases B with _|⟨x2,y2⟩
 ·rw[ev_eq (eqP_symm FI (sum_nr FI hS))]
  exact ((ug FK).zero _).symm
 obtain⟨ax,ay⟩:=parts_ne hA
 obtain⟨bx',by'⟩:=parts_ne hB
 cases hS with
 |op o=>
  have h2:EqP FI (some (x2,y2)) (some (x1,FI.sub (FI.int 0) y1)):=eqP_symm FI (sum_op FI (Ec.Sum.op (F:=FI) o))
  rw[ev_eq h2]
  exact (ev_op a ax ay).symm
 |@sl _ _ _ _ l x3 y3 o sl kx ky=>
  obtain⟨cx,cy⟩:=parts_ne hC
  have h:=chain_p (N:=NN) rfl NN_r a sl kx ky ax bx' cx ay by' (ne_neg cy) r_dvd hq'
  have h2:=ev_op (q:=q) c cx cy
  have h3:(ug FK).add ((ug FK).add (ev q (some (x1,y1))) (ev q (some (x2,y2)))) (ev q (some (x3,FI.sub (FI.int 0) y3)))=(ug FK).O:=h
  rw[←h2] at h3
  exact ((ug FK).cancel_r h3).symm
theorem ev_q {A:Pt Int}(a:OnP FI 4 A)(hA:E1g.nx 52435875175126190479447740508185965837690552500527637822603658699938581184513 (mk FI A a)=E1g.O){p q:EG FG (4,4)}(hp:Fr xx p)(hq':Fr xx q):ev (E2g.add p q) A=(ug FK).add (ev p A) (ev q A):=by
 rcases A with _|⟨x,y⟩
 ·exact ((ug FK).zero _).symm
 obtain⟨ax,ay⟩:=parts_ne hA
 exact chain_q (N:=NN) rfl NN_r ax ay (on_K a) r_dvd hp hq'
theorem ev_nq {A:Pt Int}(a:OnP FI 4 A)(hA:E1g.nx 52435875175126190479447740508185965837690552500527637822603658699938581184513 (mk FI A a)=E1g.O){q:EG FG (4,4)}(hq':Fr xx q):∀k,ev (E2g.nx k q) A=(ug FK).nx k (ev q A)
 |0=>by
  rcases A with _|⟨x,y⟩
  ·rfl
  ·obtain⟨ax,ay⟩:=parts_ne hA
   exact chn_O (hq_0 (N:=NN) (x0:=x) ay) xx
 |k+1=>by
  show ev (E2g.add (E2g.nx k q) q) A=(ug FK).add _ _
  rw[ev_q a hA (fr_nx hq' k) hq',ev_nq a hA hq' k]
theorem ev_np {A:Pt Int}(a:OnP FI 4 A)(hA:E1g.nx 52435875175126190479447740508185965837690552500527637822603658699938581184513 (mk FI A a)=E1g.O){q:EG FG (4,4)}(hq':Fr xx q){k:Nat}{C:Pt Int}(h:Mult FI k A C):ev q C=(ug FK).nx k (ev q A):=by
 induction k generalizing C with
 |zero=>exact (ev_eq (eqP_symm FI h))
 |succ k ih=>
  obtain⟨D,h1,h2⟩:=h
  have d:=mult_on FI a h1
  have hD:E1g.nx 52435875175126190479447740508185965837690552500527637822603658699938581184513 (mk FI D d)=E1g.O:=kill_nx hA h1
  rw[ev_add hq' d a hD hA h2,ih h1]
  rfl
end Pk
namespace Pk
set_option maxRecDepth 100000
open Go Ring Ab Ec Fp Fp2 Fp6 Fp12 Frob
def LK (l x y:G)(p q:Int):K:=((gs (gm l x) y,gn (gk l p),(0,0)),((0,0),(q,0),(0,0)))
def VK (x:G)(p:Int):K:=((x,(-p,0),(0,0)),((0,0),(0,0),(0,0)))
abbrev w3:K:=FK.mul (FK.mul ww ww) ww
theorem lk_lnv (l x y:G)(X Y:Int):FK.eq (LK l x y X Y) (FK.mul (lnv FK (FK.mul s (e2 l)) (FK.mul (e2 x) (FK.mul s s)) (FK.mul (e2 y) (FK.mul (FK.mul s s) s)) (e2 (X,0)) (e2 (Y,0))) w3):=by
 have h:=uw_l FK (X:=e2 (X,0)) (Y:=e2 (Y,0)) (l:=e2 l) (x:=e2 x) (y:=e2 y) hs
 have e:FK.sub (FK.sub (FK.mul (e2 (Y,0)) (FK.mul (FK.mul ww ww) ww)) (e2 y)) (FK.mul (e2 l) (FK.sub (FK.mul (e2 (X,0)) (FK.mul ww ww)) (e2 x)))=LK l x y X Y:=by
  rw[w3_,w2_]
  obtain⟨l0,l1⟩:=l
  obtain⟨a0,a1⟩:=x
  obtain⟨b0,b1⟩:=y
  simp[Ec.Fd.sub,FK,RK,Fp12.km,Fp12.ka,Fp6.ha,Fp6.hm,Fp6.hv,ga,gm,gx,e2,O36,LK,gs,gn,gk]
  grind
 rw[e] at h
 exact FK.symm h
theorem w3_ne:¬FK.Z w3:=mul_ne FK (mul_ne FK ww_ne ww_ne) ww_ne
theorem vk_sub (x:G)(X:Int):FK.eq (VK x X) (FK.mul (FK.mul (FK.int (-1)) (FK.mul ww ww)) (FK.sub (e2 (X,0)) (FK.mul (e2 x) (FK.mul s s)))):=by
 have h:=uw_v FK (X:=e2 (X,0)) (x:=e2 x) hs
 have e:FK.mul (FK.int (-1)) (FK.sub (FK.mul (e2 (X,0)) (FK.mul ww ww)) (e2 x))=VK x X:=by
  rw[w2_]
  obtain⟨a0,a1⟩:=x
  simp[Ec.Fd.sub,FK,RK,Fp12.km,Fp12.ka,Fp6.ha,Fp6.hm,Fp6.hv,ga,gm,gx,e2,O36,VK]
 rw[←e]
 have h2:=FK.mul_eq (FK.refl (FK.int (-1))) (FK.symm h)
 refine FK.trans h2 ?_
 rw[FK.mul_assoc,FK.mul_comm (FK.mul ww ww)]
 exact FK.refl _
section
variable {N N' r:Nat} (hN:N=N'*(PP.toNat^6-1)) (hr:N*r=PP.toNat^12-1) (ho:Nat.gcd 2 r=1)
include hN in
theorem cl_one:cl FK N (FK.int 1)=(ug FK).O:=cl_fix hN (one_ne FK) (by
 show E12 (Fp12.kc (e2 (1,0))) (e2 (1,0))
 exact E12.rfl)
theorem w2_ne:¬FK.Z (FK.mul ww ww):=mul_ne FK ww_ne ww_ne
include hN in
theorem cl_w2:cl FK N (FK.mul ww ww)=(ug FK).O:=cl_fix hN w2_ne (by
 rw[w2_]
 exact E12.rfl)
include hN hr ho in
theorem cl_w3:cl FK N w3=(ug FK).O:=by
 have h1:=cl_conj hN w3_ne
 have e:Fp12.kc w3=FK.mul (FK.int (-1)) w3:=by decide
 have m1:¬FK.Z (FK.int (-1)):=nz_int FK (by decide +kernel)
 rw[e,(cl_cls FK N).mul m1 w3_ne,m1_cl hN,(ug FK).zero'] at h1
 have h2:(ug FK).nx 2 (cl FK N w3)=(ug FK).O:=by
  rw[show (2:Nat)=1+1 from rfl,nx_add,nx_one]
  exact h1
 have h3:=nx_gcd (ug FK) 2 r h2 (cl_r hr w3)
 rwa [ho,nx_one] at h3
theorem lk_ne {l x y:G}{X Y:Int}(hy:Y%PP≠0):¬FK.Z (LK l x y X Y):=fun h=>by
 have h1:=FK.Z_of (lk_lnv l x y X Y) h
 exact (FK.zd h1).elim (lin_ne hy l x y) w3_ne
include hN hr ho in
theorem lk_cl {l x y:G}{X Y:Int}(hy:Y%PP≠0):cl FK N (LK l x y X Y)=cl FK N (lnv FK (FK.mul s (e2 l)) (FK.mul (e2 x) (FK.mul s s)) (FK.mul (e2 y) (FK.mul (FK.mul s s) s)) (e2 (X,0)) (e2 (Y,0))):=by
 rw[(cl_cls FK N).eq (lk_lnv l x y X Y),(cl_cls FK N).mul (lin_ne hy l x y) w3_ne,cl_w3 hN hr ho,(ug FK).zero]
theorem vk_ne {x:G}{X:Int}(hx:X%PP≠0):¬FK.Z (VK x X):=fun h=>by
 have h1:=FK.Z_of (vk_sub x X) h
 exact (FK.zd h1).elim (mul_ne FK (nz_int FK (by decide +kernel)) w2_ne) (ver_ne hx x)
include hN in
theorem vk_cl {x:G}{X:Int}(hx:X%PP≠0):cl FK N (VK x X)=(ug FK).O:=by
 have m1:¬FK.Z (FK.int (-1)):=nz_int FK (by decide +kernel)
 rw[(cl_cls FK N).eq (vk_sub x X),(cl_cls FK N).mul (mul_ne FK m1 w2_ne) (ver_ne hx x),(cl_cls FK N).mul m1 w2_ne,m1_cl hN,cl_w2 hN,(ug FK).zero,(ug FK).zero',cl_fix hN (ver_ne hx x) (kc_ver X x)]
instance decZG:DecidablePred FG.Z:=fun a=>inferInstanceAs (Decidable (a.1%PP=0∧a.2%PP=0))
def stK (X Y:Int):Pt G→Pt G→K
 |none,_=>FK.int 1
 |some _,none=>FK.int 1
 |some (x1,y1),some (x2,y2)=>if FG.Z (FG.sub x1 x2) then (if FG.Z (FG.sub y1 y2)∧¬FG.Z y1 then LK (slT FG x1 y1) x1 y1 X Y else VK x1 X) else LK (slC FG x1 y1 x2 y2) x1 y1 X Y
theorem stK_ne {X Y:Int}(hx:X%PP≠0)(hy:Y%PP≠0)(A B:Pt G):¬FK.Z (stK X Y A B):=by
 rcases A with _|⟨x1,y1⟩
 ·exact one_ne FK
 rcases B with _|⟨x2,y2⟩
 ·exact one_ne FK
 show ¬FK.Z (if FG.Z (FG.sub x1 x2) then (if FG.Z (FG.sub y1 y2)∧¬FG.Z y1 then LK (slT FG x1 y1) x1 y1 X Y else VK x1 X) else LK (slC FG x1 y1 x2 y2) x1 y1 X Y)
 split
 ·split
  ·exact lk_ne hy
  ·exact vk_ne hx
 ·exact lk_ne hy
include hN hr ho in
theorem stK_cl {X Y:Int}(hx:X%PP≠0)(hy:Y%PP≠0){A B:Pt G}(a:OnP FG (4,4) A)(e:OnP FG (4,4) B):cl FK N (stK X Y A B)=hq N X Y (mk FG A a) (mk FG B e):=by
 refine hv_un FK (ug FK) (cl_cls FK N) ?_ (hq_of hy a e)
 rcases A with _|⟨x1,y1⟩
 ·rw[show stK X Y none B=FK.int 1 from rfl,cl_one hN]
  exact .zl
 rcases B with _|⟨x2,y2⟩
 ·rw[show stK X Y (some (x1,y1)) none=FK.int 1 from rfl,cl_one hN]
  exact .zr
 have sl:∀l,¬Opp FG x1 y1 x2 y2→Slope FG l x1 y1 x2 y2→HV FK (ug FK) (cl FK N) (e2 (X,0)) (e2 (Y,0)) (ut (some (x1,y1))) (ut (some (x2,y2))) (cl FK N (LK l x1 y1 X Y)):=fun l h1 h2=>by
  rw[lk_cl hN hr ho hy]
  exact .sl (fun k=>h1 ((ut_opp FG hm2 s s_ne).2 k)) (ut_slope FG hm2 s h2) (lin_ne hy l x1 y1)
 show HV FK (ug FK) (cl FK N) (e2 (X,0)) (e2 (Y,0)) (ut (some (x1,y1))) (ut (some (x2,y2))) (cl FK N (if FG.Z (FG.sub x1 x2) then (if FG.Z (FG.sub y1 y2)∧¬FG.Z y1 then LK (slT FG x1 y1) x1 y1 X Y else VK x1 X) else LK (slC FG x1 y1 x2 y2) x1 y1 X Y))
 by_cases hxx:FG.Z (FG.sub x1 x2)
 ·rw[if_pos hxx]
  by_cases hyy:FG.Z (FG.sub y1 y2)∧¬FG.Z y1
  ·rw[if_pos hyy]
   have h2:¬FG.Z (FG.mul (FG.int 2) y1):=fun k=>(FG.zd k).elim (nz_int FG (by decide +kernel)) hyy.2
   exact sl _ (fun ho=>h2 (ad_2 FG ho.2 hyy.1)) ⟨slope_t3 FG hyy.1 hxx,ad_tc FG (FG.zi h2) hyy.1 hxx⟩
  ·rw[if_neg hyy,vk_cl hN hx]
   refine .op ((ut_opp FG hm2 s s_ne).1 ⟨hxx,?_⟩)
   rcases FG.zd (slope_y FG a e hxx) with h|h
   ·exact ad_o FG (Decidable.byContradiction fun k=>hyy ⟨h,k⟩) h
   ·exact h
 ·rw[if_neg hxx]
  have h3:=ad_c3 (y1:=y1) (y2:=y2) FG (FG.zi (fun k=>hxx (ad_m FG k)))
  exact sl _ (fun ho=>hxx ho.1) ⟨h3,(FG.zd (chord_z FG a e h3)).resolve_right hxx⟩
end
end Pk
namespace Pk
set_option maxRecDepth 100000
open Go Ring Ab Ec Fp Fp2 Fp6 Fp12 Frob
def Pw (u:UT FK)(n:Nat)(b:K):Prop:=∃h:¬FK.Z b,uk FK b h=(ug FK).nx n u
section
variable {u:UT FK} {n m:Nat} {b c:K}
theorem Pw.self {a:K}(h:¬FK.Z a):Pw (uk FK a h) 1 a:=⟨h,(nx_one _ _).symm⟩
theorem Pw.eq (h:Pw u n b)(e:E12 b c):Pw u n c:=by
 obtain⟨hb,h⟩:=h
 have hc:¬FK.Z c:=fun k=>hb (FK.Z_of (FK.symm (fk_eq.2 e)) k)
 exact⟨hc,(uk_eq FK (FK.symm (fk_eq.2 e))).trans h⟩
theorem Pw.mul (h:Pw u n b)(k:Pw u m c):Pw u (n+m) (Fp12.km b c):=by
 obtain⟨hb,h⟩:=h
 obtain⟨hc,k⟩:=k
 refine⟨mul_ne FK hb hc,?_⟩
 have e:=uk_mul FK (h:=hb) (k:=hc)
 rw[h,k,←nx_add] at e
 exact e.symm
theorem Pw.kp (h:Pw u n b)(k:Nat):Pw u (k*n) (Fp12.kp b k):=by
 obtain⟨hb,h⟩:=h
 refine⟨kp_ne hb k,?_⟩
 rw[←uk_kp hb,h,←nx_mul]
theorem Pw.ph (h:Pw u n b):Pw u (PP.toNat*n) (Frob.ph b):=h.kp PP.toNat
theorem Pw.kc (h:Pw u n b):Pw u (PP.toNat^6*n) (Fp12.kc b):=by
 obtain⟨hb,h⟩:=h
 have e:=uk_pn hb 6
 have p:Pw u (PP.toNat^6*n) (pn 6 b):=⟨pn_ne hb 6,by rw[←e,h,←nx_mul]⟩
 exact p.eq (pn_6 b)
theorem unit_p (u:UT FK):(ug FK).nx (PP.toNat^12-1) u=(ug FK).O:=by
 obtain⟨a,h,rfl⟩:=uk_ex FK u
 have e:=cl_r (N:=PP.toNat^12-1) (r:=1) (Nat.mul_one _) a
 rw[nx_one,cl_of FK h] at e
 exact e
theorem Pw.fin (h:Pw u n b)(k:Pw u m c)(e:n%(PP.toNat^12-1)=m%(PP.toNat^12-1)):E12 b c:=by
 obtain⟨hb,h⟩:=h
 obtain⟨hc,k⟩:=k
 have e1:=nx_mod (ug FK) (unit_p u) n
 have e2:=nx_mod (ug FK) (unit_p u) m
 rw[e] at e1
 exact fk_eq.1 (eq_uk FK (h.trans (e1.symm.trans (e2.trans k.symm))))
theorem Pw.half {a:K}(h:¬FK.Z a):Pw (uk FK a h) (PP.toNat^6-1) (Fp12.km (Fp12.kc a) (Fp12.ki a)):=by
 obtain⟨hk,e⟩:=(Pw.self h).kc
 have hi:¬FK.Z (Fp12.ki a):=ki_ne h
 refine⟨mul_ne FK hk hi,?_⟩
 have i1:(ug FK).add (uk FK a h) (uk FK (Fp12.ki a) hi)=(ug FK).O:=by
  rw[uk_mul]
  exact uk_eq FK (fk_eq.2 (km_ki h))
 have e2:=uk_mul FK (h:=hk) (k:=hi)
 rw[e,Nat.mul_one] at e2
 have e3:=nx_add (ug FK) (PP.toNat^6-1) (uk FK a h) 1
 rw[Nat.sub_add_cancel (Nat.pow_pos (by decide +kernel)),nx_one] at e3
 rw[e3,(ug FK).assoc,i1,(ug FK).zero] at e2
 exact e2.symm
theorem Pw.N {a:K}(h:¬FK.Z a):Pw (uk FK a h) NN (Fp12.kp a NN):=by
 have e:=(Pw.self h).kp NN
 rwa [Nat.mul_one] at e
def lsK (a:K):K:=Fp12.kc (Fp12.kp a xx)
def hK (f:K):K:=Fp12.km (Frob.ph (Frob.ph (Fp12.km (Fp12.kc f) (Fp12.ki f)))) (Fp12.km (Fp12.kc f) (Fp12.ki f))
def x3:Nat:=76329603384216526031706109802092473003
def bK (a:K):K:=Fp12.km (lsK a) (Frob.ph a)
def cK (b:K):K:=Fp12.km (Fp12.km (lsK (lsK b)) (Frob.ph (Frob.ph b))) (Fp12.kc b)
def finK (f:K):K:=Fp12.km (cK (bK (Fp12.kp (hK f) x3))) (hK f)
theorem Pw.ls (h:Pw u n b):Pw u (PP.toNat^6*(xx*n)) (lsK b):=(h.kp xx).kc
theorem fin_E:(PP.toNat^6*(xx*(PP.toNat^6*(xx*(PP.toNat^6*(xx*(x3*(PP.toNat*(PP.toNat*(PP.toNat^6-1))+(PP.toNat^6-1))))+PP.toNat*(x3*(PP.toNat*(PP.toNat*(PP.toNat^6-1))+(PP.toNat^6-1)))))))+PP.toNat*(PP.toNat*(PP.toNat^6*(xx*(x3*(PP.toNat*(PP.toNat*(PP.toNat^6-1))+(PP.toNat^6-1))))+PP.toNat*(x3*(PP.toNat*(PP.toNat*(PP.toNat^6-1))+(PP.toNat^6-1)))))+PP.toNat^6*(PP.toNat^6*(xx*(x3*(PP.toNat*(PP.toNat*(PP.toNat^6-1))+(PP.toNat^6-1))))+PP.toNat*(x3*(PP.toNat*(PP.toNat*(PP.toNat^6-1))+(PP.toNat^6-1))))+(PP.toNat*(PP.toNat*(PP.toNat^6-1))+(PP.toNat^6-1)))%(PP.toNat^12-1)=NN%(PP.toNat^12-1):=by decide +kernel
theorem fin_kp {f:K}(h:¬FK.Z f):E12 (finK f) (Fp12.kp f NN):=by
 have ph_:=(Pw.half h).ph.ph.mul (Pw.half h)
 have pa:=ph_.kp x3
 have pb:=pa.ls.mul pa.ph
 have pc:=(pb.ls.ls.mul pb.ph.ph).mul pb.kc
 exact (pc.mul ph_).fin (Pw.N h) fin_E
theorem fin_zero {f:K}(h:FK.Z f):FK.Z (finK f):=by
 have h1:FK.Z (Fp12.km (Fp12.kc f) (Fp12.ki f)):=FK.zm' _ (ki_zero h)
 have h2:FK.Z (hK f):=FK.zm' _ h1
 exact FK.zm' _ h2
end
end Pk
end Go.Proofs.YtfjiinaekcibhaaGreatDoor
