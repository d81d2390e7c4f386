/- Layer 11 (sense): the landed holds, of all kinds; Holds and Sum. -/
import Derived.Test.YtakfabaocgbbmaaUo
import Derived.Test.YtakfabaocgbbmaaUp
import Derived.Test.YtakfabaocgbbmaaUq
import Derived.Test.YtakfabaocgbbmaaUr
import Derived.Test.YtakfabaocgbbmaaUs
set_option maxHeartbeats 2000000
set_option maxRecDepth 20000
namespace Go.Proofs.Ytakfabaocgbbmaa.Sn
open Go.RowKit
set_option linter.unusedVariables false
set_option linter.unusedSimpArgs false
open Dig Lx Tk Ti Zs Tr
theorem askV_parts {k:Int} {v a:List Int} {c:Int} (h:askV k v a c=true):v.all within=true∧shp k v.length a.length=true∧sgn k a c=true∧v.length≤32∧a.all within=true∧within c=true∧(bools k v).all bit=true:=by
 simp only[askV,numOk,Bool.and_eq_true,decide_eq_true_eq] at h
 exact⟨h.1.1,h.1.2.1.1.1.1.1,h.1.2.1.1.1.1.2,h.1.2.1.1.1.2,h.1.2.1.1.2,h.1.2.1.2,h.2⟩
theorem fits0 {v:List Int} (hv:v.all within=true) (hp:0<v.length):fits (v.getD 0 0):=by
 have:=fits_at hv hp; simp only[fits]; omega
theorem pholds_any (u:Value) (k:Int) (x a:List Int) (c:Int) (v:List Int) (w:World) (h:PlAt w u k x a c v) (hk:askV k v a c=true) :
 Calls Try.prog 65 #[u] w (RetT (holdV k v a c) w):=by
 obtain⟨hv,hs,-,hl,ha,-,-⟩:=askV_parts hk
 rcases kd_or k with hd | hd
 · cases hd with
   | k1=>exact holds_k1 u x a c v w h (Nat.le_of_eq (of_decide_eq_true (show decide (v.length=a.length)=true from hs)).symm) (by omega) ha hv
   | k2=>exact holds_k2 u x a c v w h (Nat.le_of_eq (of_decide_eq_true (show decide (v.length=a.length)=true from hs)).symm) (by omega) ha hv
   | k3=>exact holds_k3 u x a c v w h (Nat.le_of_eq (of_decide_eq_true (show decide (v.length=a.length)=true from hs)).symm) (by omega) ha hv
   | k4=>have e:=of_decide_eq_true (show decide (v.length=a.length+1)=true from hs); exact holds_k4 u x a c v w h (by omega) (by omega) ha hv (by omega)
   | k5=>have e:=of_decide_eq_true (show decide (v.length=a.length+1)=true from hs); exact holds_k5 u x a c v w h (by omega) (by omega) ha hv (by omega)
   | k6=>have e:=of_decide_eq_true (show decide (v.length=a.length+1)=true from hs); exact holds_k6 u x a c v w h (by omega) (by omega) ha hv (by omega)
   | k7=>have e:=of_decide_eq_true (show decide (v.length=3∧a.length=0)=true from hs); exact holds_k7 u x a c v w h hv e.1
   | k8=>have e:=of_decide_eq_true (show decide (v.length=3∧a.length=0)=true from hs); exact holds_k8 u x a c v w h hv e.1
   | k9=>have e:=of_decide_eq_true (show decide (v.length=3∧a.length=0)=true from hs); exact holds_k9 u x a c v w h hv e.1
   | k10=>have e:=of_decide_eq_true (show decide (v.length=2∧a.length=0)=true from hs); exact holds_k10 u x a c v w h hv e.1
   | k11=>exact holds_k11 u x a c v w h (Nat.le_of_eq (of_decide_eq_true (show decide (v.length=a.length)=true from hs)).symm) (by omega)
   | k12=>have e:=of_decide_eq_true (show decide (1≤v.length∧a.length=0)=true from hs); exact holds_k12 u x a c v w h (by omega) (by omega)
   | k13=>have e:=of_decide_eq_true (show decide (1≤v.length∧a.length=0)=true from hs); exact holds_k13 u x a c v w h (by omega) (by omega)
   | k14=>have e:=of_decide_eq_true (show decide (v.length=3∧a.length=0)=true from hs); exact holds_k14 u x a c v w h hv e.1
   | k15=>have e:=of_decide_eq_true (show decide (v.length=2∧a.length=0)=true from hs); exact holds_k15 u x a c v w h hv e.1
   | k16=>have e:=of_decide_eq_true (show decide (v.length=2∧1≤a.length∧a.length≤64)=true from hs); exact holds_k16 u x a c v w h (by omega) (by omega) (by omega) (fits0 hv (by omega))
   | k17=>have e:=of_decide_eq_true (show decide (3≤v.length∧a.length=0)=true from hs); exact holds_k17 u x a c v w h e.1 (by omega) (fits0 hv (by omega))
   | k18=>exact holds_k18 u x a c v w h (by omega)
   | k19=>have e:=of_decide_eq_true (show decide (a.length=2*v.length)=true from hs); exact holds_k19 u x a c v w h e (by omega) ha hv
 · rw[shp_out hd] at hs; cases hs
theorem place_yes {v va:Value} {c:Cn} {a:List Int} {w:World} (h:ConAt w v c) (ha:Sl 1 QI w va a) (hca:c.a.length≤1100000) (hla:a.length≤1100000) (hk:asked c a=true) (W:World) (kk:Since w W) :
 Calls Try.prog 58 #[v,va] W (fun e w'=>∃ X xc Y yc V vc n1 n2 n3,e = .returned (.tuple #[.agg #[.int .i64 c.k,.slice X n1 xc,.slice Y n2 yc,.int .i64 c.c,.slice V n3 vc],.bool true])∧PlAt w' (.agg #[.int .i64 c.k,.slice X n1 xc,.slice Y n2 yc,.int .i64 c.c,.slice V n3 vc]) c.k c.x c.a c.c (vals c.x a)∧Since W w'):=by
 refine (place_any v va c a W (h.since kk) (ha.since stI kk) hca hla).mono ?_
 rw[hk]
 rintro e w' h
 obtain⟨u,rfl,hp,ks⟩:∃ u,e = .returned (.tuple #[u,.bool true])∧PlAt w' u c.k c.x c.a c.c (vals c.x a)∧Since W w':=h
 have hp0:=hp
 obtain⟨X,xc,Y,yc,V,vc,rfl,-,-,-⟩:=hp0
 exact⟨X,xc,Y,yc,V,vc,_,_,_,rfl,hp,ks⟩
theorem place_no {v va:Value} {c:Cn} {a:List Int} {w:World} (h:ConAt w v c) (ha:Sl 1 QI w va a) (hca:c.a.length≤1100000) (hla:a.length≤1100000) (hk:asked c a=false) (W:World) (kk:Since w W) :
 Calls Try.prog 58 #[v,va] W (fun e w'=>e = .returned (.tuple #[.agg #[.int .i64 0,.slice none 0 0,.slice none 0 0,.int .i64 0,.slice none 0 0],.bool false])∧Since W w'):=by
 refine (place_any v va c a W (h.since kk) (ha.since stI kk) hca hla).mono ?_
 rw[hk]
 rintro e w' h
 exact h
theorem sholds_any (v va:Value) (c:Cn) (a:List Int) (w:World) (h:ConAt w v c) (ha:Sl 1 QI w va a) (hca:c.a.length≤1100000) (hla:a.length≤1100000) :
 Calls Try.prog 29 #[v,va] w (RetT (holds c a) w):=by
 cases hk:asked c a with
 | false =>
  have e:holds c a=false:=by rw[holds,hk]; rfl
  rw[e]
  have PN:=Lib.hid (fun W kk=>place_no h ha hca hla hk W kk)
  obtain⟨vx,vy,rfl,h1,h2⟩:=h
  obtain⟨X,xc,rfl⟩:=h1.form
  obtain⟨Y,yc,rfl⟩:=h2.form
  obtain⟨A,ac,rfl⟩:=ha.form
  generalize c.x.length=nx at *
  generalize c.a.length=na at *
  generalize a.length=nl at *
  have ka:=Lib.hid (sA w (.cells #[.int .i64 c.k,.slice X nx xc,.slice Y na yc,.int .i64 c.c] 25))
  clear h1 h2 ha hk e
  go_enter Try.func29,Try.ntmps29
  go_wp2_with (go_at_call 58; (with_reducible refine (PN.out _ ka.out).mono ?_); rintro e w1 ⟨rfl,k1⟩)
  go_ret
  exact⟨rfl,ka.out.trans (k1.trans (sA _ _))⟩
 | true =>
  have e:holds c a=holdV c.k (vals c.x a) c.a c.c:=by rw[holds,hk]; rfl
  have hkv:askV c.k (vals c.x a) c.a c.c=true:=by
   rw[asked,Bool.and_eq_true] at hk; exact hk.2
  rw[e]
  have PY:=Lib.hid (fun W kk=>place_yes h ha hca hla hk W kk)
  have PH:=Lib.hid (fun u W (hp:PlAt W u c.k c.x c.a c.c (vals c.x a))=>pholds_any u c.k c.x c.a c.c (vals c.x a) W hp hkv)
  generalize holdV c.k (vals c.x a) c.a c.c=R at *
  obtain⟨vx,vy,rfl,h1,h2⟩:=h
  obtain⟨X,xc,rfl⟩:=h1.form
  obtain⟨Y,yc,rfl⟩:=h2.form
  obtain⟨A,ac,rfl⟩:=ha.form
  generalize c.x.length=nx at *
  generalize c.a.length=na at *
  generalize a.length=nl at *
  have ka:=Lib.hid (sA w (.cells #[.int .i64 c.k,.slice X nx xc,.slice Y na yc,.int .i64 c.c] 25))
  clear h1 h2 ha hk hkv e
  go_enter Try.func29,Try.ntmps29
  go_wp2_with (first
   | (go_at_call 58; (with_reducible refine (PY.out _ ka.out).mono ?_); rintro e w1 ⟨X1,x1,Y1,y1,V1,v1,m1,m2,m3,rfl,hp,k1⟩; have HP:=Lib.hid (hp.since (sA w1 (.cells #[.int .i64 c.k,.slice X1 m1 x1,.slice Y1 m2 y1,.int .i64 c.c,.slice V1 m3 v1] 73))); clear hp)
   | (go_at_call 65; (with_reducible refine (PH.out _ _ HP.out).mono ?_); rintro e w2 ⟨rfl,k2⟩))
  go_ret
  exact⟨rfl,ka.out.trans (k1.trans ((sA _ _).trans k2))⟩
theorem sumOf_some {c:Cn} {a:List Int} (h:asked c a=true) (h1:decide (1≤c.k∧c.k≤6)=true):some (sm c.a (vals c.x a))=sumOf c a:=by
 rw[sumOf,if_pos ⟨h,of_decide_eq_true h1⟩]
theorem sumOf_none {c:Cn} {a:List Int} (h:asked c a=false∨decide (1≤c.k∧c.k≤6)=false):none=sumOf c a:=by
 rw[sumOf,if_neg]
 rintro⟨h1,h2⟩
 rcases h with h | h
 · rw[h1] at h; cases h
 · exact of_decide_eq_false h h2
theorem sum_le {k:Int} {n m:Nat} (h:shp k n m=true) (hk:1≤k∧k≤6):m≤n:=by
 unfold shp at h
 repeat (split at h; · simp only[decide_eq_true_eq] at h; omega)
 cases h
theorem ssum_any (v va:Value) (c:Cn) (a:List Int) (w:World) (h:ConAt w v c) (ha:Sl 1 QI w va a) (hca:c.a.length≤1100000) (hla:a.length≤1100000) :
 Calls Try.prog 27 #[v,va] w (RetN (sumOf c a) w):=by
 cases hk:asked c a with
 | false =>
  have E:=Lib.hid (sumOf_none (c:=c) (a:=a) (.inl hk))
  have PN:=Lib.hid (fun W kk=>place_no h ha hca hla hk W kk)
  obtain⟨vx,vy,rfl,h1,h2⟩:=h
  obtain⟨X,xc,rfl⟩:=h1.form
  obtain⟨Y,yc,rfl⟩:=h2.form
  obtain⟨A,ac,rfl⟩:=ha.form
  generalize c.x.length=nx at *
  generalize c.a.length=na at *
  generalize a.length=nl at *
  have ka:=Lib.hid (sA w (.cells #[.int .i64 c.k,.slice X nx xc,.slice Y na yc,.int .i64 c.c] 25))
  clear h1 h2 ha hk
  go_enter Try.func27,Try.ntmps27
  go_wp2_with (go_at_call 58; (with_reducible refine (PN.out _ ka.out).mono ?_); rintro e w1 ⟨rfl,k1⟩)
  go_ret2
  exact RetN.no E.out (ka.out.trans (k1.trans (sA _ _)))
 | true =>
  have hkv:askV c.k (vals c.x a) c.a c.c=true:=by
   rw[asked,Bool.and_eq_true] at hk; exact hk.2
  obtain⟨hv,hs,-,hl,haa,-,-⟩:=askV_parts hkv
  have PY:=Lib.hid (fun W kk=>place_yes h ha hca hla hk W kk)
  have HS:=Lib.hid (fun b (hb:decide (1≤c.k∧c.k≤6)=b) u W (hp:PlAt W u c.k c.x c.a c.c (vals c.x a))=>by have:=hasSum_any u c.k c.x c.a c.c (vals c.x a) W hp; rw[hb] at this; exact this)
  have SM:=Lib.hid (fun (hb:decide (1≤c.k∧c.k≤6)=true) u W (hp:PlAt W u c.k c.x c.a c.c (vals c.x a))=>sum_any u c.k c.x c.a c.c (vals c.x a) W hp (sum_le hs (of_decide_eq_true hb)) (by omega) haa hv)
  have EN:=Lib.hid (fun (hb:decide (1≤c.k∧c.k≤6)=false)=>sumOf_none (c:=c) (a:=a) (.inr hb))
  have EY:=Lib.hid (fun (hb:decide (1≤c.k∧c.k≤6)=true)=>sumOf_some hk hb)
  obtain⟨vx,vy,rfl,h1,h2⟩:=h
  obtain⟨X,xc,rfl⟩:=h1.form
  obtain⟨Y,yc,rfl⟩:=h2.form
  obtain⟨A,ac,rfl⟩:=ha.form
  generalize sm c.a (vals c.x a)=S at *
  generalize c.x.length=nx at *
  generalize c.a.length=na at *
  generalize a.length=nl at *
  have ka:=Lib.hid (sA w (.cells #[.int .i64 c.k,.slice X nx xc,.slice Y na yc,.int .i64 c.c] 25))
  clear h1 h2 ha hk hkv hv hs haa
  cases hb:decide (1≤c.k∧c.k≤6) with
  | false =>
   have E:=Lib.hid (EN.out hb)
   have D:=Lib.hid (HS.out false hb)
   clear hb EN EY HS SM
   go_enter Try.func27,Try.ntmps27
   go_wp2_with (first
    | (go_at_call 58; (with_reducible refine (PY.out _ ka.out).mono ?_); rintro e w1 ⟨X1,x1,Y1,y1,V1,v1,m1,m2,m3,rfl,hp,k1⟩; have HP:=Lib.hid (hp.since (sA w1 (.cells #[.int .i64 c.k,.slice X1 m1 x1,.slice Y1 m2 y1,.int .i64 c.c,.slice V1 m3 v1] 73))); clear hp)
    | (go_at_call 59; (with_reducible refine (D.out _ _ HP.out).mono ?_); rintro e w2 ⟨rfl,k2⟩))
   go_ret2
   exact RetN.no E.out (ka.out.trans (k1.trans ((sA _ _).trans k2)))
  | true =>
   have E:=Lib.hid (EY.out hb)
   have D:=Lib.hid (HS.out true hb)
   have D2:=Lib.hid (SM.out hb)
   clear hb EN EY HS SM
   go_enter Try.func27,Try.ntmps27
   go_wp2_with (first
    | (go_at_call 58; (with_reducible refine (PY.out _ ka.out).mono ?_); rintro e w1 ⟨X1,x1,Y1,y1,V1,v1,m1,m2,m3,rfl,hp,k1⟩; have HB:=Lib.hid (fun W (kk:Since (w1.alloc (.cells #[.int .i64 c.k,.slice X1 m1 x1,.slice Y1 m2 y1,.int .i64 c.c,.slice V1 m3 v1] 73)) W)=>(Bx.fresh w1 #[.int .i64 c.k,.slice X1 m1 x1,.slice Y1 m2 y1,.int .i64 c.c,.slice V1 m3 v1] 73).since kk); have HP:=Lib.hid (hp.since (sA w1 (.cells #[.int .i64 c.k,.slice X1 m1 x1,.slice Y1 m2 y1,.int .i64 c.c,.slice V1 m3 v1] 73))); clear hp)
    | (go_at_call 59; (with_reducible refine (D.out _ _ HP.out).mono ?_); rintro e w2 ⟨rfl,k2⟩; obtain⟨b0,b1,b2,b3,b4⟩:=bx5 (HB.out _ k2); have HP2:=Lib.hid (HP.out.since k2))
    | (go_at_call 60; (with_reducible refine (D2.out _ _ HP2.out).mono ?_); rintro e w3 ⟨rfl,k3⟩))
   go_ret2
   exact RetN.yes E.out (ka.out.trans (k1.trans ((sA _ _).trans (k2.trans k3))))
end Go.Proofs.Ytakfabaocgbbmaa.Sn
